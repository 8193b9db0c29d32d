import PyProof.Rows.All
import Wide.All
import OpenK.AllK
import Wide.FinOn
import KE.OsRunLaw
import HandS.ForMost
import HandS.ForExc
import HandS.Walk
import HandS.Wide
import HandS.TupAny
import HandS.Strs
import HandS.More
import HandS.SetFor
import HandS.Conv
import HandS.Style
import HandS.IsInst
import HandS.Flow
import HandS.Deep
import HandS.SortInts
import HandS.SortRule
import HandS.NoneIn
import KE.GoesEnum
import KE.GoesMore
import HandS.Property
import HandS.ClsMeth
import HandS.CallSlots
import HandS.ExcInit
import HandS.ExcField
import HandS.TryOnly
import HandS.TryMany
import HandS.ExcIs
import KE.KExcIs
import HandS.OwnEq
import KE.KTupSum
import KE.GoesZip
import HandS.Comp
import HandS.SetBool
import HandS.TupSets
import HandS.Iter
import PySem.Challenge.RW_outagain_k27_two_numbers
set_option Elab.async false
set_option linter.all false
namespace Pu
section
open PySem PySem.W PySem.Calls PyProof.Rows HeadRun
set_option maxRecDepth 100000
set_option maxHeartbeats 0
noncomputable def zzR : OpenRow := OpenLaw.row PySem.Challenge.rw_outagain_k27_two_numbers
noncomputable def zzP : Program := zzR.toRowW.prog
noncomputable def zzQ : Program := view zzP (([0, 2, 3, 4, 5, 7, 8, 9, 10, 12, 13, 14, 15, 16, 17, 18, 20, 21, 22, 23, 25, 26, 27, 28, 29, 30, 31, 33, 34, 35, 36, 37, 38, 39, 40, 41, 42, 43, 44, 45] : List Nat) ++ ([46, 47, 48] : List Nat))
noncomputable def zzL : List Str := ["MOST_DAYS", "Depot"]
noncomputable def zzV : List (Str × WData) := [("MOST_DAYS", WData.int 1000000000000000000000000000000)]
noncomputable def zzM : List Str := importedModules zzP.main.body
noncomputable def zzX (s : Shared) : Bool := xlAt zzQ zzV s && recOk zzR.toRowW.records s
noncomputable def zzE (w : World) (os : OsState) : Option SharedT := endF (stepQ (denQ tabQ) zzP w) 5848 zzP w os
theorem zzS (w : World) (os : OsState) : (zzE w os).map (fun s => seen ((recsOf zzQ).map (·.name)) (ownsOf zzQ) [] { s.abs with gens := #[] }) = some (expectedOf zzQ) := by kernel_rfl
theorem zzK (w : World) (os : OsState) : (zzE w os).map (fun s => s.abs.heap.keysOk (looseW zzQ zzL) ((recsOf zzQ).map (·.name)) ((litsOf zzQ).map (·.1)) ((clssOf zzQ (looseW zzQ zzL)).map (·.name))) = some (true) := by kernel_rfl
theorem zzT (w : World) (os : OsState) : (zzE w os).map (fun s => tabsOk zzQ s.abs) = some (true) := by kernel_rfl
theorem zzI (w : World) (os : OsState) : (zzE w os).map (fun s => pinSeenD zzQ (drecsOf zzQ) s.abs) = some (pinGoodD (drecsOf zzQ)) := by kernel_rfl
theorem zzE' (w : World) (os : OsState) : (zzE w os).map (fun s => plainSeenE zzQ (looseW zzQ zzL) s.abs) = some (plainGoodE zzQ (looseW zzQ zzL)) := by kernel_rfl
theorem zzW (w : World) (os : OsState) : (zzE w os).map (fun s => wideSeen zzQ s.abs) = some (wideGood zzQ) := by kernel_rfl
theorem zzA (w : World) (os : OsState) : (zzE w os).map (fun s => (looksF zzP (boot_heap w.params) s.abs, s.abs.heap.bltView, s.abs.heap.accountedOkI zzM, s.abs.heap.isNs mainGlobals, s.abs.heap.isNs builtinsNs, tablesOk zzQ s.abs.heap, zzX s.abs, (if true then s.abs.gens.size == 0 else !leftWithCleanup s.abs.gens), plainSeenD zzQ zzL s.abs, clsSeenW zzQ zzL s.abs)) = some ((true, bltViewBooted, true, true, true, true, true, true, plainGoodD zzQ zzL, clsGoodW zzQ zzL)) := by kernel_rfl
theorem zzat {α β : Type _} {x : Option α} {f : α → β} {b : β} {s : α} (h : x.map f = some b) (e : x = some s) : f s = b := by
  subst e
  exact Option.some.inj h
theorem zzLooks (w : World) (os : OsState) : (zzE w os).map (fun s => looksF zzP (boot_heap w.params) s.abs) = some true := by
  obtain ⟨s, e, h⟩ := Option.map_eq_some_iff.mp (zzA w os)
  rw [e]
  exact congrArg some (congrArg Prod.fst h)
theorem zzSeen (w : World) (os : OsState) : (zzE w os).map (fun s => seenQ zzQ zzL zzM zzX s.abs) = some (openGood zzQ zzL) := by
  obtain ⟨s, e, h⟩ := Option.map_eq_some_iff.mp (zzA w os)
  obtain ⟨_, h⟩ := Prod.mk.inj h
  obtain ⟨h2, h⟩ := Prod.mk.inj h
  obtain ⟨h3, h⟩ := Prod.mk.inj h
  obtain ⟨h4, h⟩ := Prod.mk.inj h
  obtain ⟨h5, h⟩ := Prod.mk.inj h
  obtain ⟨h6, h⟩ := Prod.mk.inj h
  obtain ⟨h7, h⟩ := Prod.mk.inj h
  obtain ⟨h8, h⟩ := Prod.mk.inj h
  obtain ⟨h9, h10⟩ := Prod.mk.inj h
  have g1 := zzat (zzS w os) e
  have gK := zzat (zzK w os) e
  have gT := zzat (zzT w os) e
  have gI := zzat (zzI w os) e
  have gE := zzat (zzE' w os) e
  have gW := zzat (zzW w os) e
  rw [e]
  show some (seenQ zzQ zzL zzM zzX s.abs) = _
  rw [← seenQ_eq]
  unfold openSeen openGood
  rw [g1, gK, gT, gI, gE, gW, h2, h3, h4, h5, h6, h7, h8, h9, h10]
  rfl
theorem zzspl {α β γ δ : Type _} {x : Option α} {f : α → β} {g : α → γ} {h : α → δ} {b : β} {c : γ} {d : δ} (h1 : x.map f = some b) (h2 : x.map g = some c) (h3 : x.map h = some d) : x.map (fun s => (f s, g s, h s)) = some (b, c, d) := by
  obtain ⟨s, rfl, rfl⟩ := Option.map_eq_some_iff.mp h1
  have e2 := zzat h2 rfl
  have e3 := zzat h3 rfl
  rw [← e2, ← e3]
  rfl
end
end Pu
set_option Elab.async false
set_option linter.all false
set_option maxRecDepth 100000
set_option maxHeartbeats 2000000
set_option autoImplicit false
namespace Pu
open PySem L2

inductive D where
  | non | bl (b : Bool) | int (i : Int) | str (x : Str) | lst (ds : List D) | tup (ds : List D)
  | obj (c : Nat) (ds : List D) | pool | cls (c : Nat) | script (ns : List Int) | pin (a : Addr) (ns : List Int)
  /-- a list that is only looked at -/
  | vw (ds : List D)
deriving Inhabited

noncomputable def ctab : Nat → Str × List Str
  | 0 => ("Depot", ["period", "quota", "firsts"])
  | 1 => ("Book", ["stretches", "days"])
  | 2 => ("After", ["days", "passes", "longs", "nexts", "_depot"])
  | 20 => ("OutagainError", [])
  | 21 => ("OutOfRange", ["at", "code"])
  | 22 => ("BadDepot", ["at", "code"])
  | 23 => ("BadBook", ["at", "code"])
  | 24 => ("BadLives", ["at", "code"])
  | 25 => ("BadPasses", ["at", "code"])
  | 26 => ("BadCrews", ["at", "code"])
  | 27 => ("BadWish", ["at", "code"])
  | 28 => ("BadBounds", ["at", "code"])
  | 29 => ("BadNotes", ["at", "code"])
  | 30 => ("BadLists", ["at", "code"])
  | 31 => ("BadLine", ["at", "code"])
  | 32 => ("NoBook", ["reason"])
  | 33 => ("GoalLost", ["reason"])
  | 34 => ("NothingLeft", [])
  | _ => ("", [])
noncomputable def cname (c : Nat) : Str := (ctab c).1
noncomputable def cfs (c : Nat) : List Str := (ctab c).2

inductive GO where
  | fz (o : HO) | pool (l : Addr) (ns : List Int) | vw (xs : List V)
noncomputable abbrev Gp := Addr → Option GO
noncomputable def updG (G : Gp) (a : Addr) (g : GO) : Gp := fun b => if b = a then some g else G b
theorem updG_same {G : Gp} {a : Addr} {g : GO} : updG G a g a = some g := by unfold updG; rw [if_pos rfl]
theorem updG_ne {G : Gp} {a b : Addr} {g : GO} (h : b ≠ a) : updG G a g b = G b := by unfold updG; rw [if_neg h]
structure Ctx where
  K : PySem.W.Frag
  mg : Str → Option Value

noncomputable def KL (K : PySem.W.Frag) (a : Addr) (xs : List V) : Prop :=
  ∃ (o : Obj) (its : Array Value) (n : Nat), K.lookup a = some o ∧ o.cls = .type "list" ∧ o.dict = none ∧ o.data = .seq its n ∧ its.size ≤ sizeLine ∧ Vals xs its.toList
noncomputable def KT (K : PySem.W.Frag) (a : Addr) (xs : List V) : Prop :=
  ∃ (o : Obj) (its : Array Value) (n : Nat), K.lookup a = some o ∧ o.cls = .type "tuple" ∧ o.dict = none ∧ o.data = .seq its n ∧ its.size ≤ sizeLine ∧ Vals xs its.toList
noncomputable def LkG (G : Gp) (a : Addr) (xs : List V) : Prop := G a = some (.fz (.lst xs)) ∨ G a = some (.vw xs)
noncomputable def LsG (C : Ctx) (G : Gp) (a : Addr) (xs : List V) : Prop := LkG G a xs ∨ (∃ o, G a = some (.fz (.frz o (.lst xs)))) ∨ KL C.K a xs
noncomputable def LfG (G : Gp) (a : Addr) (xs : List V) : Prop := G a = some (.fz (.lst xs))
noncomputable def TpG (C : Ctx) (G : Gp) (a : Addr) (xs : List V) : Prop := (∃ o, G a = some (.fz (.frz o (.tup xs))) ∧ o.dict = none) ∨ KT C.K a xs
noncomputable def mkF (c : Nat) (vs : List V) : List (Str × V) := (cfs c).zip vs

mutual
inductive R (C : Ctx) (G : Gp) : V → D → Prop
  | non : R C G .non .non
  | bl (b) : R C G (.bl b) (.bl b)
  | int (i) : R C G (.int i) (.int i)
  | str (x) : R C G (.str x) (.str x)
  | lst {a xs ds} : LfG G a xs → RAll C G xs ds → R C G (.ref a) (.lst ds)
  | script {a} {ns : List Int} : LsG C G a (ns.map V.int) → R C G (.ref a) (.script ns)
  | tup {a xs ds} : TpG C G a xs → RAll C G xs ds → R C G (.ref a) (.tup ds)
  | obj {a A dx vs c ds} : C.mg (cname c) = some (.ref A) → G a = some (.fz (.ins A dx (mkF c vs))) → RAll C G vs ds → ds.length = (cfs c).length → R C G (.ref a) (.obj c ds)
  | pool {a l ns} : G a = some (.pool l ns) → R C G (.ref a) .pool
  | pin {a ns} : LkG G a (ns.map V.int) → R C G (.ref a) (.pin a ns)
  | vw {a xs ds} : G a = some (.vw xs) → RAll C G xs ds → R C G (.ref a) (.vw ds)
  | cls {A c} : C.mg (cname c) = some (.ref A) → R C G (.ref A) (.cls c)
inductive RAll (C : Ctx) (G : Gp) : List V → List D → Prop
  | nil : RAll C G [] []
  | cons {v d vs ds} : R C G v d → RAll C G vs ds → RAll C G (v :: vs) (d :: ds)
end

section
variable {C : Ctx} {G G' : Gp}
theorem LkG.mono {a xs} (k : ∀ a g, G a = some g → G' a = some g) (h : LkG G a xs) : LkG G' a xs := h.imp (k _ _) (k _ _)
theorem LsG.mono {a xs} (k : ∀ a g, G a = some g → G' a = some g) (h : LsG C G a xs) : LsG C G' a xs := by
  rcases h with h | ⟨o, h⟩ | h
  · exact .inl (h.mono k)
  · exact .inr (.inl ⟨o, k _ _ h⟩)
  · exact .inr (.inr h)
theorem TpG.mono {a xs} (k : ∀ a g, G a = some g → G' a = some g) (h : TpG C G a xs) : TpG C G' a xs := by
  rcases h with ⟨o, h, hd⟩ | h
  · exact .inl ⟨o, k _ _ h, hd⟩
  · exact .inr h
mutual
theorem R.mono (k : ∀ a g, G a = some g → G' a = some g) : ∀ {v d}, R C G v d → R C G' v d
  | _, _, .non => .non
  | _, _, .bl b => .bl b
  | _, _, .int i => .int i
  | _, _, .str x => .str x
  | _, _, .lst h r => .lst (k _ _ h) (RAll.mono k r)
  | _, _, .script h => .script (h.mono k)
  | _, _, .tup h r => .tup (h.mono k) (RAll.mono k r)
  | _, _, .obj h g r l => .obj h (k _ _ g) (RAll.mono k r) l
  | _, _, .pool g => .pool (k _ _ g)
  | _, _, .pin g => .pin (g.mono k)
  | _, _, .vw h r => .vw (k _ _ h) (RAll.mono k r)
  | _, _, .cls h => .cls h
theorem RAll.mono (k : ∀ a g, G a = some g → G' a = some g) : ∀ {vs ds}, RAll C G vs ds → RAll C G' vs ds
  | _, _, .nil => .nil
  | _, _, .cons r t => .cons (R.mono k r) (RAll.mono k t)
end
theorem RAll.length : ∀ {vs ds}, RAll C G vs ds → vs.length = ds.length
  | _, _, .nil => rfl
  | _, _, .cons _ t => congrArg (· + 1) (RAll.length t)
theorem RAll.append : ∀ {vs ds ws es}, RAll C G vs ds → RAll C G ws es → RAll C G (vs ++ ws) (ds ++ es)
  | _, _, _, _, .nil, s => s
  | _, _, _, _, .cons r t, s => .cons r (RAll.append t s)
theorem RAll.get : ∀ {vs ds} {i : Nat} {d : D}, RAll C G vs ds → ds[i]? = some d → ∃ v, vs[i]? = some v ∧ R C G v d
  | _, _, i, d, .nil, e => by simp at e
  | _, _, 0, d, .cons (v := v) r _, e => by
    have : _ = d := Option.some.inj e
    subst this
    exact ⟨v, rfl, r⟩
  | _, _, i + 1, d, .cons r t, e => by
    obtain ⟨v, h1, h2⟩ := RAll.get (i := i) (d := d) t (by simpa using e)
    exact ⟨v, by simpa using h1, h2⟩
theorem RAll.getV : ∀ {vs ds} {i : Nat} {v : V}, RAll C G vs ds → vs[i]? = some v → ∃ d, ds[i]? = some d ∧ R C G v d
  | _, _, i, d, .nil, e => by simp at e
  | _, _, 0, v, .cons (d := d) r _, e => by
    have : _ = v := Option.some.inj e
    subst this
    exact ⟨d, rfl, r⟩
  | _, _, i + 1, d, .cons r t, e => by
    obtain ⟨v, h1, h2⟩ := RAll.getV (i := i) (v := d) t (by simpa using e)
    exact ⟨v, by simpa using h1, h2⟩
theorem RAll.set {v : V} {d : D} (r : R C G v d) : ∀ {vs ds} (i : Nat), RAll C G vs ds → RAll C G (vs.set i v) (ds.set i d)
  | _, _, _, .nil => .nil
  | _, _, 0, .cons _ t => .cons r t
  | _, _, i + 1, .cons q t => .cons q (RAll.set r i t)
theorem RAll.take : ∀ {vs ds} (n : Nat), RAll C G vs ds → RAll C G (vs.take n) (ds.take n)
  | _, _, 0, _ => by simpa using RAll.nil
  | _, _, _ + 1, .nil => .nil
  | _, _, n + 1, .cons r t => .cons r (RAll.take n t)
theorem RAll.drop : ∀ {vs ds} (n : Nat), RAll C G vs ds → RAll C G (vs.drop n) (ds.drop n)
  | _, _, 0, r => r
  | _, _, _ + 1, .nil => .nil
  | _, _, n + 1, .cons _ t => RAll.drop n t
theorem RAll.one {v d} (r : R C G v d) : RAll C G [v] [d] := .cons r .nil
theorem RAll.reverse : ∀ {vs ds}, RAll C G vs ds → RAll C G vs.reverse ds.reverse
  | _, _, .nil => .nil
  | _, _, .cons r t => by simp only [List.reverse_cons]; exact RAll.append (RAll.reverse t) (.one r)
theorem RAll.dropLast : ∀ {vs ds}, RAll C G vs ds → RAll C G vs.dropLast ds.dropLast
  | _, _, h => by rw [List.dropLast_eq_take, List.dropLast_eq_take, h.length]; exact h.take _
theorem RAll.eraseIdx : ∀ {vs ds} (i : Nat), RAll C G vs ds → RAll C G (vs.eraseIdx i) (ds.eraseIdx i)
  | _, _, _, .nil => .nil
  | _, _, 0, .cons _ t => t
  | _, _, i + 1, .cons r t => .cons r (RAll.eraseIdx i t)
theorem RAll.int : ∀ {vs : List V} {ns : List Int}, RAll C G vs (ns.map D.int) → vs = ns.map V.int
  | _, [], .nil => rfl
  | _, n :: ns, .cons r t => by
    cases r
    rw [List.map_cons, RAll.int t]
theorem RAll.ints : ∀ (ns : List Int), RAll C G (ns.map V.int) (ns.map D.int)
  | [] => .nil
  | n :: ns => .cons (.int n) (RAll.ints ns)
end

noncomputable def PoolAt (H : Hp) (a l : Addr) (ns : List Int) : Prop :=
  ns.length ≤ 63 ∧ ∃ s0 s1 s2 s3 : Int, H a = some (.lst [.int s0, .int s1, .int s2, .int s3, .ref l]) ∧ 0 ≤ s0 ∧ 0 ≤ s1 ∧ s1 < 2147483629 ∧ 0 ≤ s2 ∧ 0 ≤ s3 ∧ s3 ≤ ns.length
noncomputable def GOk (G : Gp) (H : Hp) (a : Addr) : GO → Prop
  | .fz o => H a = some o
  | .pool l ns => PoolAt H a l ns ∧ LkG G l (ns.map V.int)
  | .vw xs => H a = some (.lst xs)
structure Ok (G : Gp) (H : Hp) : Prop where
  at_ : ∀ a g, G a = some g → GOk G H a g
theorem Ok.vw {G : Gp} {H : Hp} {a : Addr} {xs : List V} (k : Ok G H) (h : G a = some (.vw xs)) : H a = some (.lst xs) := k.at_ a _ h
theorem Ok.fz {G : Gp} {H : Hp} {a : Addr} {o : HO} (k : Ok G H) (h : G a = some (.fz o)) : H a = some o := k.at_ a _ h
theorem Ok.lk {G : Gp} {H : Hp} {a : Addr} {xs : List V} (k : Ok G H) (h : LkG G a xs) : H a = some (.lst xs) := h.elim k.fz k.vw
structure Ext (G : Gp) (H : Hp) (G' : Gp) (H' : Hp) : Prop where
  g : ∀ a o, G a = some o → G' a = some o
  ok : Ok G' H'
  h : ∀ a o, H a = some o → G a = none → H' a = some o ∧ G' a = none
theorem Ext.refl {G : Gp} {H : Hp} (k : Ok G H) : Ext G H G H := ⟨fun _ _ h => h, k, fun _ _ h g => ⟨h, g⟩⟩
theorem Ext.trans {G G1 G2 : Gp} {H H1 H2 : Hp} (a : Ext G H G1 H1) (b : Ext G1 H1 G2 H2) : Ext G H G2 H2 :=
  ⟨fun x o h => b.g x o (a.g x o h), b.ok, fun x o h g => let ⟨h1, g1⟩ := a.h x o h g; b.h x o h1 g1⟩
theorem Ok.none_of {G : Gp} {H : Hp} (k : Ok G H) {a : Addr} (h : H a = none) : G a = none := by
  cases e : G a with
  | none => rfl
  | some g =>
    have x := k.at_ a g e
    cases g with
    | fz o =>
      have x' : H a = some o := x
      rw [h] at x'; cases x'
    | pool l ns =>
      obtain ⟨⟨_, _, _, _, _, x', _⟩, _⟩ : PoolAt H a l ns ∧ _ := x
      rw [h] at x'; cases x'
    | vw xs =>
      have x' : H a = some (.lst xs) := x
      rw [h] at x'; cases x'
theorem Ext.back {G G1 : Gp} {H H1 : Hp} (x : Ext G H G1 H1) {p : Addr} (h : H1 p = none) : H p = none := by
  cases e : H p with
  | none => rfl
  | some o =>
    cases eg : G p with
    | none => rw [(x.h p o e eg).1] at h; cases h
    | some g =>
      have z := x.ok.none_of h
      rw [x.g p g eg] at z; cases z
theorem Ext.new {G : Gp} {H : Hp} (k : Ok G H) {p : Addr} {o : HO} (hp : H p = none) : Ext G H G (upd H p o) := by
  refine ⟨fun _ _ h => h, ⟨fun a g h => ?_⟩, fun a u h g => ⟨by rw [upd_ne (ne_of_none h hp)]; exact h, g⟩⟩
  have x := k.at_ a g h
  have hne : a ≠ p := fun e => by rw [e, k.none_of hp] at h; cases h
  cases g with
  | fz u =>
    show upd H p o a = some u
    rw [upd_ne hne]; exact x
  | pool l ns =>
    obtain ⟨⟨hl, s0, s1, s2, s3, x', r⟩, y⟩ : PoolAt H a l ns ∧ _ := x
    exact ⟨⟨hl, s0, s1, s2, s3, by rw [upd_ne hne]; exact x', r⟩, y⟩
  | vw u =>
    show upd H p o a = some _
    rw [upd_ne hne]; exact x
theorem Ok.fzG {G : Gp} {H : Hp} (k : Ok G H) {p : Addr} {o : HO} (hp : H p = some o) (gp : G p = none) : Ok (updG G p (.fz o)) H := by
  refine ⟨fun a g h => ?_⟩
  by_cases e : a = p
  · subst e
    rw [updG_same] at h
    cases h
    exact hp
  · rw [updG_ne e] at h
    have x := k.at_ a g h
    cases g with
    | fz u => exact x
    | pool l ns =>
      obtain ⟨x', y⟩ : PoolAt H a l ns ∧ LkG _ _ _ := x
      refine ⟨x', ?_⟩
      unfold LkG
      rw [updG_ne (fun z => by rw [z] at y; rcases y with y | y <;> (rw [gp] at y; cases y))]
      exact y
    | vw u => exact x
theorem updG_keep {G : Gp} {p : Addr} {g : GO} (gp : G p = none) : ∀ a o, G a = some o → updG G p g a = some o := fun a o h => by
  rw [updG_ne (fun z => by rw [z, gp] at h; cases h)]; exact h
theorem Ext.share {G G1 : Gp} {H H1 : Hp} (x : Ext G H G1 H1) {p : Addr} {o : HO} (hn : H p = none) (hp : H1 p = some o) (gp : G1 p = none) : Ext G H (updG G1 p (.fz o)) H1 := by
  refine ⟨fun a u h => updG_keep gp a u (x.g a u h), x.ok.fzG hp gp, fun a u h g => ?_⟩
  obtain ⟨h1, g1⟩ := x.h a u h g
  exact ⟨h1, by rw [updG_ne (ne_of_none h hn)]; exact g1⟩
theorem Ext.newG {G : Gp} {H : Hp} (k : Ok G H) {p : Addr} {o : HO} (hp : H p = none) : Ext G H (updG G p (.fz o)) (upd H p o) :=
  (Ext.new k hp).share hp upd_same (k.none_of hp)
theorem Ext.write {G0 G : Gp} {H0 H : Hp} (x : Ext G0 H0 G H) {p : Addr} {o : HO} (hn : H0 p = none) (gp : G p = none) : Ext G0 H0 G (upd H p o) := by
  refine ⟨x.g, ⟨fun a g h => ?_⟩, fun a u h g => ?_⟩
  · have y := x.ok.at_ a g h
    have hne : a ≠ p := fun e => by rw [e, gp] at h; cases h
    cases g with
    | fz u =>
      show upd H p o a = some u
      rw [upd_ne hne]; exact y
    | pool l ns =>
      obtain ⟨⟨hl, s0, s1, s2, s3, x', r⟩, y'⟩ : PoolAt H a l ns ∧ _ := y
      exact ⟨⟨hl, s0, s1, s2, s3, by rw [upd_ne hne]; exact x', r⟩, y'⟩
    | vw u =>
      show upd H p o a = some _
      rw [upd_ne hne]; exact y
  · obtain ⟨h1, g1⟩ := x.h a u h g
    exact ⟨by rw [upd_ne (ne_of_none h hn)]; exact h1, g1⟩

section
variable {C : Ctx} {G G' : Gp} {H H' : Hp}
theorem LsG.seq {a xs} (k : Ok G H) (h : LsG C G a xs) : SqL C.K H a xs := by
  rcases h with h | ⟨o, h⟩ | h
  · exact .inl (.inl (k.lk h))
  · exact .inl (.inr ⟨o, k.fz h⟩)
  · exact .inr h
theorem TpG.seq {a xs} (k : Ok G H) (h : TpG C G a xs) : SqT C.K H a xs := by
  rcases h with ⟨o, h, _⟩ | ⟨o, its, n, h1, h2, _, h3⟩
  · exact .inl (.inr ⟨o, k.fz h⟩)
  · exact .inr ⟨o, its, n, h1, h2, h3⟩
theorem Ext.newT {p : Addr} {o : Obj} {xs : List V} {ds : List D} (k : Ok G H) (hp : H p = none) (hd : o.dict = none) (r : RAll C G xs ds) :
    Ext G H (updG G p (.fz (.frz o (.tup xs)))) (upd H p (.frz o (.tup xs))) ∧ R C (updG G p (.fz (.frz o (.tup xs)))) (.ref p) (.tup ds) :=
  ⟨Ext.newG k hp, .tup (.inl ⟨o, updG_same, hd⟩) (r.mono (updG_keep (k.none_of hp)))⟩
noncomputable def RV (C : Ctx) (G : Gp) (H : Hp) (v : V) (d : D) : Prop :=
  R C G v d ∨ ∃ a xs ds, v = .ref a ∧ d = .lst ds ∧ H a = some (.lst xs) ∧ G a = none ∧ RAll C G xs ds
theorem RV.lst {v ds} (k : Ok G H) (r : RV C G H v (.lst ds)) : ∃ a xs, v = .ref a ∧ H a = some (.lst xs) ∧ RAll C G xs ds := by
  rcases r with r | ⟨a, xs, ds', rfl, e, h, g, r⟩
  · cases r with
    | lst h r => exact ⟨_, _, rfl, k.fz h, r⟩
  · cases e
    exact ⟨a, xs, rfl, h, r⟩
theorem RV.vw {v ds} (k : Ok G H) (r : RV C G H v (.vw ds)) : ∃ a xs, v = .ref a ∧ H a = some (.lst xs) ∧ RAll C G xs ds := by
  rcases r with r | ⟨a, xs, ds', rfl, e, h, g, r⟩
  · cases r with
    | vw h r => exact ⟨_, _, rfl, k.vw h, r⟩
  · cases e
theorem RV.tup {v ds} (k : Ok G H) (r : RV C G H v (.tup ds)) : ∃ a xs, v = .ref a ∧ SqT C.K H a xs ∧ RAll C G xs ds := by
  rcases r with r | ⟨a, xs, ds', rfl, e, h, g, r⟩
  · cases r with
    | tup h r => exact ⟨_, _, rfl, h.seq k, r⟩
  · cases e
theorem RV.ext {v d} (x : Ext G H G' H') (r : RV C G H v d) : RV C G' H' v d := by
  rcases r with r | ⟨a, xs, ds', rfl, e, h, g, r⟩
  · exact .inl (r.mono x.g)
  · obtain ⟨h1, g1⟩ := x.h _ _ h g
    exact .inr ⟨a, xs, ds', rfl, e, h1, g1, r.mono x.g⟩
theorem RV.scal {v d} (r : RV C G H v d) (n : ∀ ds, d ≠ .lst ds) : R C G v d := by
  rcases r with r | ⟨a, xs, ds', rfl, e, h, g, r⟩
  · exact r
  · exact absurd e (n _)
end

structure Exn where
  c : Nat
  ds : List D
noncomputable def XR (C : Ctx) (G : Gp) (cls : Value) (d : Option Addr) (e : Exn) : Prop :=
  ∃ A, C.mg (cname e.c) = some (.ref A) ∧ cls = .ref A ∧ e.ds.length = (cfs e.c).length ∧
    ((e.ds = [] ∧ d = none) ∨ ∃ dd vs, d = some dd ∧ G dd = some (.fz (.xd ((mkF e.c vs).reverse))) ∧ RAll C G vs e.ds)
theorem XR.ext {C : Ctx} {G G' : Gp} {cls : Value} {d : Option Addr} {e : Exn} (k : ∀ a g, G a = some g → G' a = some g) (r : XR C G cls d e) : XR C G' cls d e := by
  obtain ⟨A, h1, h2, h3, h4⟩ := r
  refine ⟨A, h1, h2, h3, ?_⟩
  rcases h4 with h4 | ⟨dd, vs, e1, e2, e3⟩
  · exact .inl h4
  · exact .inr ⟨dd, vs, e1, k _ _ e2, e3.mono k⟩

inductive S where
  | d (d : D) | own (oa : Option Addr) (ds : List D) | slf (a : Addr) (c : Nat) (ds : List D) | exc (a : Addr) (cls : Value) (dx : Option Addr) (e : Exn)
  /-- data whose lists nobody else knows: those at P -/
  | tree (P : Addr → Prop) (d : D)
noncomputable abbrev Dl := List (Option S)
inductive SR1 (C : Ctx) (H0 : Hp) (G : Gp) (H : Hp) : V → S → Prop
  | d {v d} : R C G v d → SR1 C H0 G H v (.d d)
  | own {a oa xs ds} : (∀ b, oa = some b → b = a) → H a = some (.lst xs) → G a = none → H0 a = none → RAll C G xs ds → SR1 C H0 G H (.ref a) (.own oa ds)
  | slf {a A dx vs c ds} : C.mg (cname c) = some (.ref A) → H a = some (.ins A dx (mkF c vs)) → G a = none → H0 a = none → RAll C G vs ds → ds.length ≤ (cfs c).length → SR1 C H0 G H (.ref a) (.slf a c ds)
  | exc {a cls dx e} : XR C G cls dx e → SR1 C H0 G H (.ref a) (.exc a cls dx e)
  | tree {v d P Gp} : (∀ a g, Gp a = some g → (P a ∧ ∃ xs, g = .fz (.lst xs) ∧ H a = some (.lst xs)) ∨ (G a = some g ∧ ∀ xs, g ≠ .fz (.lst xs))) → (∀ a, P a → H0 a = none ∧ G a = none ∧ ∃ xs, H a = some (.lst xs)) → R C Gp v d → SR1 C H0 G H v (.tree P d)
noncomputable def S.isOwn : S → Bool
  | .d _ => false
  | .own _ _ => true
  | .slf _ _ _ => true
  | .exc _ _ _ _ => false
  | .tree _ _ => false
noncomputable def S.fp : S → V → Addr → Prop
  | .own _ _, v, a => v = .ref a
  | .slf _ _ _, v, a => v = .ref a
  | .tree P _, _, a => P a
  | _, _, _ => False
structure SRel (C : Ctx) (H0 : Hp) (G : Gp) (H : Hp) (σ : St) (δ : Dl) : Prop where
  len : σ.length = δ.length
  at_ : ∀ (i : Nat) (s : S), δ[i]? = some (some s) → ∃ v, σ[i]? = some (some v) ∧ SR1 C H0 G H v s
  apart : ∀ (i j : Nat) (s s' : S) (v v' : V), i ≠ j → δ[i]? = some (some s) → δ[j]? = some (some s') → s.isOwn = true → s'.isOwn = true → σ[i]? = some (some v) → σ[j]? = some (some v') → v ≠ v'
  apT : ∀ (i j : Nat) (P : Addr → Prop) (d : D) (s' : S) (v' : V) (a : Addr), i ≠ j → δ[i]? = some (some (.tree P d)) → δ[j]? = some (some s') → σ[j]? = some (some v') → P a → s'.fp v' a → False
section
variable {C : Ctx} {G G' G0 : Gp} {H H' H0 : Hp} {σ : St} {δ : Dl}
theorem SR1.ext {v s} (x : Ext G H G' H') (r : SR1 C H0 G H v s) : SR1 C H0 G' H' v s := by
  cases r with
  | d r => exact .d (r.mono x.g)
  | own ha h g n r =>
    obtain ⟨h1, g1⟩ := x.h _ _ h g
    exact .own ha h1 g1 n (r.mono x.g)
  | slf m h g n r l =>
    obtain ⟨h1, g1⟩ := x.h _ _ h g
    exact .slf m h1 g1 n (r.mono x.g) l
  | exc r => exact .exc (r.ext x.g)
  | tree h1 h2 r =>
    refine .tree (fun a g e => ?_) (fun a p => ?_) r
    · rcases h1 a g e with ⟨p, xs, rfl, hx⟩ | ⟨g1, n⟩
      · exact .inl ⟨p, xs, rfl, (x.h _ _ hx (h2 a p).2.1).1⟩
      · exact .inr ⟨x.g _ _ g1, n⟩
    · obtain ⟨n, g, xs, hx⟩ := h2 a p
      obtain ⟨y1, y2⟩ := x.h _ _ hx g
      exact ⟨n, y2, xs, y1⟩
theorem SRel.ext (x : Ext G H G' H') (s : SRel C H0 G H σ δ) : SRel C H0 G' H' σ δ :=
  ⟨s.len, fun i t h => let ⟨v, e, r⟩ := s.at_ i t h; ⟨v, e, r.ext x⟩, s.apart, s.apT⟩
theorem SRel.rvD {i : Nat} {e : D} (t : SRel C H0 G H σ δ) (h : δ[i]? = some (some (.d e))) : ∃ v, σ[i]? = some (some v) ∧ R C G v e := by
  obtain ⟨v, e, r⟩ := t.at_ i _ h
  refine ⟨v, e, ?_⟩
  cases r with
  | d r => exact r
theorem SRel.rvO {i : Nat} {oa : Option Addr} {ds : List D} (t : SRel C H0 G H σ δ) (h : δ[i]? = some (some (.own oa ds))) : ∃ v, σ[i]? = some (some v) ∧ RV C G H v (.lst ds) := by
  obtain ⟨v, e, r⟩ := t.at_ i _ h
  refine ⟨v, e, ?_⟩
  cases r with
  | own _ hx gx nx rx => exact .inr ⟨_, _, _, rfl, rfl, hx, gx, rx⟩
theorem SRel.setN {i : Nat} {o : Option V} (t : SRel C H0 G H σ δ) : SRel C H0 G H (σ.set i o) (δ.set i none) := by
  have key : ∀ (j : Nat) (s : S), (δ.set i none)[j]? = some (some s) → j ≠ i ∧ δ[j]? = some (some s) := fun j s h => by
    by_cases e : i = j
    · subst e
      by_cases hl : i < δ.length
      · rw [List.getElem?_set_self hl] at h; cases h
      · rw [List.getElem?_eq_none (by simpa using hl)] at h; cases h
    · rw [List.getElem?_set_ne e] at h
      exact ⟨fun z => e z.symm, h⟩
  refine ⟨by rw [List.length_set, List.length_set, t.len], fun j s h => ?_, fun j k s s' v v' n h1 h2 o1 o2 e1 e2 => ?_, fun j k P d s' v' a n h1 h2 e2 pa f => ?_⟩
  · obtain ⟨n, h⟩ := key j s h
    obtain ⟨v, e, r⟩ := t.at_ j s h
    exact ⟨v, by rw [List.getElem?_set_ne (Ne.symm n)]; exact e, r⟩
  · obtain ⟨n1, h1⟩ := key j s h1
    obtain ⟨n2, h2⟩ := key k s' h2
    rw [List.getElem?_set_ne (Ne.symm n1)] at e1
    rw [List.getElem?_set_ne (Ne.symm n2)] at e2
    exact t.apart j k s s' v v' n h1 h2 o1 o2 e1 e2
  · obtain ⟨n1, h1⟩ := key j _ h1
    obtain ⟨n2, h2⟩ := key k s' h2
    rw [List.getElem?_set_ne (Ne.symm n2)] at e2
    exact t.apT j k P d s' v' a n h1 h2 e2 pa f
theorem SRel.set {i : Nat} {v : V} {s : S} (t : SRel C H0 G H σ δ) (r : SR1 C H0 G H v s) (ap : s.isOwn = true → ∀ (j : Nat) (s' : S), δ[j]? = some (some s') → s'.isOwn = true → j ≠ i → σ[j]? ≠ some (some v))
    (ap2 : ∀ (j : Nat) (s' : S) (v' : V) (a : Addr), δ[j]? = some (some s') → σ[j]? = some (some v') → j ≠ i → s'.fp v' a → s.fp v a → False) :
    SRel C H0 G H (σ.set i (some v)) (δ.set i (some s)) := by
  have key : ∀ (j : Nat) (u : S), (δ.set i (some s))[j]? = some (some u) → (j = i ∧ u = s ∧ i < δ.length) ∨ (j ≠ i ∧ δ[j]? = some (some u)) := fun j u h => by
    by_cases e : i = j
    · subst e
      by_cases hl : i < δ.length
      · rw [List.getElem?_set_self hl] at h
        exact .inl ⟨rfl, (Option.some.inj (Option.some.inj h)).symm, hl⟩
      · rw [List.getElem?_eq_none (by simpa using hl)] at h; cases h
    · rw [List.getElem?_set_ne e] at h
      exact .inr ⟨fun z => e z.symm, h⟩
  refine ⟨by rw [List.length_set, List.length_set, t.len], fun j u h => ?_, fun j k u u' v1 v2 n h1 h2 o1 o2 e1 e2 => ?_, fun j k P d u v2 a n h1 h2 e2 pa f => ?_⟩
  · rcases key j u h with ⟨rfl, rfl, hl⟩ | ⟨n, h⟩
    · exact ⟨v, List.getElem?_set_self (by rw [t.len]; exact hl), r⟩
    · obtain ⟨v', e, r'⟩ := t.at_ j u h
      exact ⟨v', by rw [List.getElem?_set_ne (Ne.symm n)]; exact e, r'⟩
  · rcases key j u h1 with ⟨ej, eu, hl⟩ | ⟨n1, g1⟩
    · rcases key k u' h2 with ⟨ek, _, _⟩ | ⟨n2, g2⟩
      · exact absurd (ej.trans ek.symm) n
      · rw [ej, List.getElem?_set_self (by rw [t.len]; exact hl)] at e1
        rw [List.getElem?_set_ne (Ne.symm n2)] at e2
        have ev : v = v1 := Option.some.inj (Option.some.inj e1)
        intro z
        exact ap (by rw [← eu]; exact o1) k u' g2 o2 n2 (by rw [ev, z]; exact e2)
    · rcases key k u' h2 with ⟨ek, eu, hl⟩ | ⟨n2, g2⟩
      · rw [ek, List.getElem?_set_self (by rw [t.len]; exact hl)] at e2
        rw [List.getElem?_set_ne (Ne.symm n1)] at e1
        have ev : v = v2 := Option.some.inj (Option.some.inj e2)
        intro z
        exact ap (by rw [← eu]; exact o2) j u g1 o1 n1 (by rw [ev, ← z]; exact e1)
      · rw [List.getElem?_set_ne (Ne.symm n1)] at e1
        rw [List.getElem?_set_ne (Ne.symm n2)] at e2
        exact t.apart j k u u' v1 v2 n g1 g2 o1 o2 e1 e2
  · rcases key j _ h1 with ⟨ej, eu, hl⟩ | ⟨n1, g1⟩
    · rcases key k u h2 with ⟨ek, _, _⟩ | ⟨n2, g2⟩
      · exact absurd (ej.trans ek.symm) n
      · rw [List.getElem?_set_ne (Ne.symm n2)] at e2
        exact ap2 k u v2 a g2 e2 n2 f (by rw [← eu]; exact pa)
    · obtain ⟨v1, e1, _⟩ := t.at_ j _ g1
      rcases key k u h2 with ⟨ek, eu, hl⟩ | ⟨n2, g2⟩
      · rw [ek, List.getElem?_set_self (by rw [t.len]; exact hl)] at e2
        have ev : v = v2 := Option.some.inj (Option.some.inj e2)
        exact ap2 j _ v1 a g1 e1 n1 (by exact pa) (by rw [← eu, ev]; exact f)
      · rw [List.getElem?_set_ne (Ne.symm n2)] at e2
        exact t.apT j k P d u v2 a n g1 g2 e2 pa f
theorem SRel.setD {i : Nat} {v : V} {d : D} (t : SRel C H0 G H σ δ) (r : R C G v d) : SRel C H0 G H (σ.set i (some v)) (δ.set i (some (.d d))) :=
  t.set (.d r) (fun z => by cases z) (fun _ _ _ _ _ _ _ _ f => f.elim)
end
noncomputable def wipeD (δ : Dl) : List Nat → Dl
  | [] => δ
  | v :: vs => (wipeD δ vs).set v none
theorem SRel.wipe {C : Ctx} {G : Gp} {H H0 : Hp} {σ : St} {δ : Dl} (t : SRel C H0 G H σ δ) : ∀ vs : List Nat, SRel C H0 G H (wipe σ vs) (wipeD δ vs)
  | [] => t
  | v :: vs => (SRel.wipe t vs).setN

structure Stt (C : Ctx) (G0 : Gp) (H0 : Hp) (σ : St) (δ : Dl) (G : Gp) (H : Hp) : Prop where
  ext : Ext G0 H0 G H
  sr : SRel C H0 G H σ δ
theorem Stt.ok {C : Ctx} {G0 G : Gp} {H0 H : Hp} {σ : St} {δ : Dl} (t : Stt C G0 H0 σ δ G H) : Ok G H := t.ext.ok
theorem Stt.step {C : Ctx} {G0 G G' : Gp} {H0 H H' : Hp} {σ : St} {δ : Dl} (t : Stt C G0 H0 σ δ G H) (x : Ext G H G' H') : Stt C G0 H0 σ δ G' H' := ⟨t.ext.trans x, t.sr.ext x⟩

noncomputable def EOk (C : Ctx) (G : Gp) (H : Hp) (E : XK) (P : Exn → Prop) : Prop :=
  ∀ G' H' cls d e, Ext G H G' H' → XR C G' cls d e → P e → E cls d H'
theorem EOk.ext {C : Ctx} {G G' : Gp} {H H' : Hp} {E : XK} {P : Exn → Prop} (h : EOk C G H E P) (x : Ext G H G' H') : EOk C G' H' E P :=
  fun G2 H2 cls d e y r p => h G2 H2 cls d e (x.trans y) r p
noncomputable abbrev PX := Dl → (D → Prop) → (Exn → Prop) → Prop
noncomputable abbrev PAx := Dl → (List D → Prop) → (Exn → Prop) → Prop
noncomputable abbrev PTx := Dl → (Bool → Prop) → (Exn → Prop) → Prop
noncomputable abbrev PLx := Dl → (List D → Prop) → (Exn → Prop) → Prop
structure PEnds where
  nx : Dl → Prop
  rt : Dl → D → Prop
  bk : Dl → Prop
  ct : Dl → Prop
  ex : Dl → Exn → Prop
noncomputable abbrev PSx := PEnds → Dl → Prop
noncomputable abbrev PSp := List D → (D → Prop) → (Exn → Prop) → Prop

noncomputable abbrev cx (X : Cx) : Ctx := ⟨X.K, X.mg⟩

structure LX (X : Cx) (E : St → XK) (e : Expr) (te : TE) (pe : PX) : Prop where
  py : PE X e te
  le : ∀ {δ : Dl} {σ : St} {G : Gp} {H H0 : Hp} {Q : VK} {P : D → Prop} {P2 : Exn → Prop}, Ok G H → SRel (cx X) H0 G H σ δ → EOk (cx X) G H (E σ) P2 → pe δ P P2 →
    (∀ v d G' H', Ext G H G' H' → R (cx X) G' v d → P d → Q v H') → te σ H Q
structure LV (X : Cx) (E : St → XK) (e : Expr) (te : TE) (pe : PX) : Prop where
  py : PE X e te
  le : ∀ {δ : Dl} {σ : St} {G : Gp} {H H0 : Hp} {Q : VK} {P : D → Prop} {P2 : Exn → Prop}, Ok G H → SRel (cx X) H0 G H σ δ → EOk (cx X) G H (E σ) P2 → pe δ P P2 →
    (∀ v d G' H', Ext G H G' H' → RV (cx X) G' H' v d → P d → Q v H') → te σ H Q
structure LO (X : Cx) (E : St → XK) (e : Expr) (te : TE) (pe : PX) : Prop where
  py : PE X e te
  le : ∀ {δ : Dl} {σ : St} {G : Gp} {H H0 : Hp} {Q : VK} {P : D → Prop} {P2 : Exn → Prop}, Ok G H → SRel (cx X) H0 G H σ δ → EOk (cx X) G H (E σ) P2 → pe δ P P2 →
    (∀ p xs ds G' H', Ext G H G' H' → H p = none → H' p = some (.lst xs) → G' p = none → RAll (cx X) G' xs ds → P (.lst ds) → Q (.ref p) H') → te σ H Q
structure LA (X : Cx) (E : St → XK) (es : List Expr) (ta : TA) (pa : PAx) : Prop where
  py : PA X es ta
  le : ∀ {δ : Dl} {σ : St} {G : Gp} {H H0 : Hp} {Q : List V → Hp → Prop} {P : List D → Prop} {P2 : Exn → Prop}, Ok G H → SRel (cx X) H0 G H σ δ → EOk (cx X) G H (E σ) P2 → pa δ P P2 →
    (∀ vs ds G' H', Ext G H G' H' → RAll (cx X) G' vs ds → P ds → Q vs H') → ta σ H Q
structure LT (X : Cx) (E : St → XK) (e : Expr) (tt : TT) (pt : PTx) : Prop where
  py : PT X e tt
  le : ∀ {δ : Dl} {σ : St} {G : Gp} {H H0 : Hp} {Q : Bool → Hp → Prop} {P : Bool → Prop} {P2 : Exn → Prop}, Ok G H → SRel (cx X) H0 G H σ δ → EOk (cx X) G H (E σ) P2 → pt δ P P2 →
    (∀ b G' H', Ext G H G' H' → P b → Q b H') → tt σ H Q
structure EndsR (C : Ctx) (G0 : Gp) (H0 : Hp) (E : St → XK) (Dn : Ends) (P : PEnds) : Prop where
  nx : ∀ {σ : St} {δ : Dl} {G : Gp} {H : Hp}, Stt C G0 H0 σ δ G H → P.nx δ → Dn.nx σ H
  rt : ∀ {σ : St} {δ : Dl} {v : V} {d : D} {G : Gp} {H : Hp}, Stt C G0 H0 σ δ G H → R C G v d → P.rt δ d → Dn.rt v H
  bk : ∀ {σ : St} {δ : Dl} {G : Gp} {H : Hp}, Stt C G0 H0 σ δ G H → P.bk δ → Dn.bk σ H
  ct : ∀ {σ : St} {δ : Dl} {G : Gp} {H : Hp}, Stt C G0 H0 σ δ G H → P.ct δ → Dn.ct σ H
  ex : ∀ {σ : St} {δ : Dl} {G : Gp} {H : Hp}, Stt C G0 H0 σ δ G H → EOk C G H (E σ) (P.ex δ)
structure LS (X : Cx) (E : St → XK) (st : Stmt) (ts : TS) (ps : PSx) : Prop where
  py : PS X st ts
  le : ∀ {G0 : Gp} {H0 : Hp} {Dn : Ends} {P : PEnds} {δ : Dl} {σ : St} {G : Gp} {H : Hp}, EndsR (cx X) G0 H0 E Dn P → Stt (cx X) G0 H0 σ δ G H → ps P δ → ts Dn σ H
structure LSs (X : Cx) (E : St → XK) (st : List Stmt) (ts : TS) (ps : PSx) : Prop where
  py : PSs X st ts
  le : ∀ {G0 : Gp} {H0 : Hp} {Dn : Ends} {P : PEnds} {δ : Dl} {σ : St} {G : Gp} {H : Hp}, EndsR (cx X) G0 H0 E Dn P → Stt (cx X) G0 H0 σ δ G H → ps P δ → ts Dn σ H
noncomputable def Out (js : List Nat) (σ σ' : St) : Prop := σ'.length = σ.length ∧ ∀ i, i ∉ js → σ'[i]? = σ[i]?
structure LG (X : Cx) (tg : Expr) (g : TG) (pg : D → Dl → (Dl → Prop) → Prop) (js : List Nat) : Prop where
  py : PG X tg g
  le : ∀ {δ : Dl} {σ : St} {G : Gp} {H H0 : Hp} {v : V} {d : D} {P : Dl → Prop} {Q : St → Hp → Prop}, Ok G H → SRel (cx X) H0 G H σ δ → R (cx X) G v d → pg d δ P →
    (∀ σ' δ', SRel (cx X) H0 G H σ' δ' → Out js σ σ' → P δ' → Q σ' H) → g v σ H Q
theorem Out.refl {js : List Nat} {σ : St} : Out js σ σ := ⟨rfl, fun _ _ => rfl⟩
theorem Out.set {i : Nat} {σ : St} {o : Option V} : Out [i] σ (σ.set i o) := ⟨List.length_set, fun j h => List.getElem?_set_ne (fun e => h (by rw [e]; exact List.mem_singleton_self _))⟩
theorem Out.trans {js ks : List Nat} {σ σ1 σ2 : St} (a : Out js σ σ1) (b : Out ks σ1 σ2) : Out (js ++ ks) σ σ2 :=
  ⟨b.1.trans a.1, fun i h => (b.2 i fun m => h (List.mem_append_right _ m)).trans (a.2 i fun m => h (List.mem_append_left _ m))⟩
theorem wipe_at {σ : St} {i : Nat} : ∀ {vs : List Nat}, i ∈ vs → (wipe σ vs)[i]? = if i < σ.length then some none else none
  | [], h => by cases h
  | v :: vs, h => by
    unfold wipe
    by_cases e : v = i
    · subst e
      by_cases hl : v < σ.length
      · rw [List.getElem?_set_self (by rw [wipe_length]; exact hl), if_pos hl]
      · rw [List.getElem?_eq_none (by rw [List.length_set, wipe_length]; omega), if_neg hl]
    · rw [List.getElem?_set_ne e]
      exact wipe_at (by rcases List.mem_cons.mp h with h | h; exact absurd h.symm e; exact h)
theorem Out.wipe {js vs : List Nat} {σ σ' : St} (o : Out js σ σ') (h : ∀ i ∈ js, i ∈ vs) : wipe σ' vs = wipe σ vs := by
  apply List.ext_getElem?
  intro i
  by_cases m : i ∈ vs
  · rw [wipe_at m, wipe_at m, o.1]
  · rw [wipe_out m, wipe_out m]
    exact o.2 i fun z => m (h i z)
end Pu
set_option Elab.async false
set_option linter.all false
set_option maxRecDepth 100000
set_option maxHeartbeats 2000000
set_option autoImplicit false
namespace Pu
open PySem PySem.Spec PyProof.Rows L2
section
variable {X : Cx}
theorem layN {pins : List (Addr × Obj)} {σ : L2.St} {H : Hp} {s : Shared} {xs : List V} {its : List Value} {Q : VK} {h : Heap} {tk : Nat} (I : Inv X pins σ H s) (k : ∀ b u, s.heap.get? b = some u → h.get? b = some u) (r : Vals xs its) (z : xs.length ≤ sizeLine) (le : s.heap.objs.size ≤ h.objs.size)
    (q : ∀ p o, H p = none → o.dict = none → Q (.ref p) (upd H p (.frz o (.tup xs)))) : EP X pins σ Q (.ref h.objs.size) { s with heap := h.push { cls := .type "tuple", data := .seq its.toArray }, toks := tk } := by
  have hn : H h.objs.size = none := I.hok.fresh le
  refine ⟨.ref h.objs.size, upd H h.objs.size (.frz { cls := .type "tuple", data := .seq its.toArray } (.tup xs)), ?_, rfl, q _ _ hn rfl⟩
  have at_ : (h.push { cls := .type "tuple", data := .seq its.toArray }).get? h.objs.size = some { cls := .type "tuple", data := .seq its.toArray } := Heap.get?_push_size _ rfl
  exact I.laid (t' := tk) (fun b u e => Heap.get?_push_of_some _ (k b u e)) le ⟨at_, z, its, r, _, at_, rfl, _, rfl⟩
noncomputable def tTupN (t : TA) : TE := fun σ H Q => t σ H fun xs H1 => xs.length ≤ sizeLine ∧ ∀ p o, H1 p = none → o.dict = none → Q (.ref p) (upd H1 p (.frz o (.tup xs)))
theorem pe_tupN {es : List Expr} {x1 : Nat} {pos : Pos} {t : TA} (h : PA X es t) : PE X (.Tuple es x1 pos) (tTupN t) :=
  ⟨fun pins s σ H Q I hq => wpAny_Tuple_spliced (thn (h.run pos pins s σ H _ I hq) fun us s1 ⟨xs, H1, I1, r, z, q⟩ =>
    ⟨by rw [← r.length] <;> exact z, layN (tk := s1.toks) (h := s1.heap) I1 (fun _ _ e => e) r z (Nat.le_refl _) q⟩)⟩
noncomputable def rTupN (K : PySem.W.Frag) : List V → Hp → VK → Prop := fun xs H Q => ∃ a ys, xs = [.ref a] ∧ ((SqL K H a ys ∧ ∀ p o, H p = none → o.dict = none → Q (.ref p) (upd H p (.frz o (.tup ys)))) ∨ (SqT K H a ys ∧ Q (.ref a) H))
theorem call_tupN : CallR X (.type "tuple") (rTupN X.K) := fun pins s σ H xs us Q I r ⟨a, ys, e, h⟩ => by
  subst e
  obtain ⟨u, rfl, rx⟩ := vals1 r
  cases rx
  rcases h with ⟨hs, q⟩ | ⟨hs, q⟩
  · obtain ⟨its, rv, pl, z⟩ := I.list hs
    have el := rv.length
    exact call_tuple_list pl.isList (fun h1 kp => layN (s := { s with heap := h1, toks := s.toks }) (tk := s.toks) (h := h1) (I.kept (h' := h1) (t' := s.toks) kp) (fun _ _ e => e) rv z (Nat.le_refl _) q) (by simp only [List.size_toArray]; omega)
  · obtain ⟨its, rv, pl, z⟩ := I.tuple hs
    exact call_tuple_same pl ⟨.ref a, H, I, rfl, q⟩
noncomputable def rCatN (K : PySem.W.Frag) : R2 := fun x y H Q => ∃ a b xs ys, x = .ref a ∧ y = .ref b ∧ SqT K H a xs ∧ SqT K H b ys ∧ xs.length + ys.length ≤ sizeLine ∧
  (xs = [] → Q (.ref b) H) ∧ (xs ≠ [] → ys = [] → Q (.ref a) H) ∧ (xs ≠ [] → ys ≠ [] → ∀ p o, H p = none → o.dict = none → Q (.ref p) (upd H p (.frz o (.tup (xs ++ ys)))))
theorem op_catN : OpR X (binaryOp .Add) (rCatN X.K) := fun pins s σ H x y v u Q I rx ry ⟨a, b, xs, ys, ex, ey, ha, hb, hz, q0, q1, q2⟩ => by
  subst ex ey
  cases rx
  cases ry
  obtain ⟨its, r1, p1, z1⟩ := I.tuple ha
  obtain ⟨jts, r2, p2, z2⟩ := I.tuple hb
  by_cases hx : xs = []
  · cases hx
    cases r1
    exact cat_tup0 p1 p2 ⟨.ref b, H, I, rfl, q0 rfl⟩
  · refine HT.cat_tup p1 p2 (fun w => hx (r1.nil_iff.mp w)) (fun w => ⟨.ref a, H, I, rfl, q1 hx (r2.nil_iff.mp w)⟩) (fun w => ?_) (by rw [← r1.length, ← r2.length] <;> exact hz)
    exact layN (tk := s.toks) (h := s.heap) I (fun _ _ e => e) (r1.append r2) (by rw [List.length_append] <;> exact hz) (Nat.le_refl _) (q2 hx fun w => by cases w; cases r2; exact absurd rfl ‹_›)
noncomputable def rSlN (K : PySem.W.Frag) : V → Option Int → Option Int → Hp → VK → Prop := fun x lo hi H Q => ∃ a xs, x = .ref a ∧ SqT K H a xs ∧
  (HT.sIx xs.length 0 lo = 0 ∧ HT.sIx xs.length xs.length hi = xs.length → Q (.ref a) H) ∧ (¬ (HT.sIx xs.length 0 lo = 0 ∧ HT.sIx xs.length xs.length hi = xs.length) → ∀ p o, H p = none → o.dict = none → Q (.ref p) (upd H p (.frz o (.tup (cutV xs lo hi)))))
theorem sl_tupN : SlR X (rSlN X.K) := fun pins s σ H x v vl vu lo hi sl Q I rx hs pl pu ⟨a, xs, ex, hx, q1, q2⟩ => by
  subst ex
  cases rx
  obtain ⟨its, r, ht, hz⟩ := I.tuple hx
  have hlen : its.toArray.size = xs.length := by rw [List.size_toArray] <;> exact r.length.symm
  refine ⟨"tuple", _, PyProof.Rows.slot_tuple_getitem.lookup, ht.typeIs, ?_⟩
  by_cases hw : HT.sIx xs.length 0 lo = 0 ∧ HT.sIx xs.length xs.length hi = xs.length
  · exact getItem_tuple_whole ht hs pl pu (by rw [hlen] <;> exact hw) ⟨.ref a, H, I, rfl, q1 hw⟩
  · refine HT.getItem_tuple_cut ht hs pl pu (by rw [hlen] <;> exact hw) ?_ (by rw [hlen] <;> exact hz)
    rw [hlen]
    exact layN (tk := s.toks) (h := s.heap) I (fun _ _ e => e) ((r.drop (HT.sIx xs.length 0 lo)).take (HT.sIx xs.length xs.length hi - HT.sIx xs.length 0 lo)) (Nat.le_trans (cutV_length xs lo hi) hz) (Nat.le_refl _) (q2 hw)
noncomputable def Nd (K : PySem.W.Frag) (H : Hp) (a : Addr) (T : String) (xs : List V) : Prop :=
  (T = "list" ∧ SqL K H a xs) ∨ (T = "tuple" ∧ ((∃ o, H a = some (.frz o (.tup xs)) ∧ o.dict = none) ∨ ∃ (o : Obj) (its : Array Value) (n : Nat), K.lookup a = some o ∧ o.cls = .type "tuple" ∧ o.dict = none ∧ o.data = .seq its n ∧ its.size ≤ sizeLine ∧ Vals xs its.toList))
theorem Nd.is {pins : List (Addr × Obj)} {σ : L2.St} {H : Hp} {s : Shared} {T : String} {a : Addr} {xs : List V} (I : Inv X pins σ H s) (h : Nd X.K H a T xs) :
    ∃ (its : Array Value) (n : Nat) (sl : Array (Option Value)), s.heap.get? a = some ⟨.type T, none, .seq its n, sl⟩ ∧ Vals xs its.toList := by
  rcases h with ⟨rfl, h⟩ | ⟨rfl, h | h⟩
  · obtain ⟨its, r, ⟨⟨c, d, dt, sl⟩, n, e, hc, hd, hs⟩, _⟩ := I.list h
    simp only at hc hd hs
    subst hc hd hs
    exact ⟨its.toArray, n, sl, e, by simpa using r⟩
  · obtain ⟨⟨c, d, dt, sl⟩, h, hd⟩ := h
    obtain ⟨e, z, its, r, o', e', hc, n, hs⟩ := (show ObjOk X.prog X.w H s.heap a (.frz _ (.tup xs)) from I.hok a _ h)
    have eo := Option.some.inj (e.symm.trans e')
    subst eo
    simp only at hc hd hs
    subst hc hd hs
    exact ⟨its.toArray, n, sl, e, by simpa using r⟩
  · obtain ⟨⟨c, d, dt, sl⟩, its, n, hk, hc, hd, hs, z, r⟩ := h
    simp only at hc hd hs
    subst hc hd hs
    exact ⟨its, n, sl, I.kIn a _ hk, r⟩
noncomputable def tCnt (K : PySem.W.Frag) (to te : TE) : TE := fun σ H Q => to σ H fun x H1 => ∃ (a : Addr) (T : String) (ns : List Int), x = .ref a ∧ Nd K H1 a T (ns.map V.int) ∧ te σ H1 fun y H2 => ∃ k : Int, [y] = [V.int k] ∧ Nd K H2 a T (ns.map V.int) ∧ Q (.int (ns.count k : Nat)) H2
theorem pe_cnt {o e : Expr} {to te : TE} {apos cpos : Pos} (ho : PE X o to) (he : PE X e te) (hbase : attributeBase o "count" X.env (eval o X.env) = eval o X.env := by rfl)
    (hfew : ((backTo cpos (starEach [e] X.env)).all (fun x => !x.1) && (backToKw cpos (keywordEach [] X.env)).all (fun x => x.1.isSome) && decide ([e].length + ([] : List Keyword).length + (if ([] : List Keyword).isEmpty then 0 else 1) < 30)) = true := by rfl)
    (hline : (apos.endLine == cpos.line) = true := by rfl) (hs : starEach [e] X.env = (false, eval e X.env) :: starEach [] X.env := by rfl) :
    PE X (.Call (.Attribute o "count" apos) [e] [] cpos) (tCnt X.K to te) := by
  refine ⟨fun pins s σ H Q I h => wpAny_Call_method_late hbase hfew hline rfl (thn (ho.run pins s σ H _ I h) fun v s1 ⟨x, H1, I1, r1, a, T, ns, ex, nd, q⟩ => ?_)⟩
  subst ex
  cases r1
  have hA := (pa_cons he pa_nil hs).run cpos pins s1 σ H1 (fun ys H2 => ∃ k : Int, ys = [V.int k] ∧ Nd X.K H2 a T (ns.map V.int) ∧ Q (.int (ns.count k : Nat)) H2) I1 q
  obtain ⟨its, n, sl, at1, rv1⟩ := nd.is I1
  have run : ∀ (id : String), (∀ us s2 ys H2, Inv X pins σ H2 s2 → Vals ys us → (∃ k : Int, ys = [V.int k] ∧ Nd X.K H2 a T (ns.map V.int) ∧ Q (.int (ns.count k : Nat)) H2) → wpAny (model X.prog X.w) X.A (call (.builtin id) (.ref a :: us)) (EP X pins σ Q) X.xe s2) →
      wpAny (model X.prog X.w) X.A (callWith cpos (.builtin id) [.ref a] (backTo cpos (starEach [e] X.env)) []) (EP X pins σ Q) X.xe s1 := fun id hm => by
    rw [hs] at hA ⊢
    exact Calls.callWith_builtin rfl (Calls.evalArgs_plain (thn hA fun us s2 ⟨vs, H2, I2, r2, q2⟩ => hm us s2 vs H2 I2 r2 q2))
  have one : ∀ {us : List Value} {s2 : Shared} {ys : List V} {H2 : Hp}, Inv X pins σ H2 s2 → Vals ys us → (∃ k : Int, ys = [V.int k] ∧ Nd X.K H2 a T (ns.map V.int) ∧ Q (.int (ns.count k : Nat)) H2) →
      ∃ (k : Int) (t : Tok) (its : Array Value) (n : Nat) (sl : Array (Option Value)), us = [.int k t] ∧ s2.heap.get? a = some ⟨.type T, none, .seq its n, sl⟩ ∧ Vals (ns.map V.int) its.toList ∧ Q (.int (ns.count k : Nat)) H2 := fun I2 r2 ⟨k, ek, n2, q2⟩ => by
    subst ek
    obtain ⟨u, rfl, t, rfl⟩ := r2.one
    obtain ⟨its, n, sl, e2, rv⟩ := n2.is I2
    exact ⟨k, t, its, n, sl, rfl, e2, rv, q2⟩
  rcases nd with ⟨rfl, _⟩ | ⟨rfl, _⟩
  · refine ⟨"list", "list.count", PySem.F.plainAttrs_list, PySem.F.slot_list_count, PySem.F.type_list_count, ⟨_, at1, rfl⟩, fun b eb => by cases eb; exact ⟨_, at1, rfl⟩, run _ fun us s2 ys H2 I2 r2 w => ?_⟩
    obtain ⟨k, t, its, n, sl, rfl, at2, rv, q2⟩ := one I2 r2 w
    have hi := ints_of_vals rv
    refine call_meets PySem.F.slot_list_count ⟨_, at2, rfl⟩ PySem.F.entry_list_count (PySem.F.args_list_count_2 _ _) (SeqAt.list_countAt a its n none sl (.int k t) (eqk k)) ⟨at2, fun y hy => (eqk_gives hi y (by simpa using hy)).at _ _, ?_⟩
    exact ⟨.int (ns.count k : Nat), H2, I2.tok _, ⟨s2.toks, by rw [eqk_count hi]⟩, q2⟩
  · refine ⟨"tuple", "tuple.count", PySem.F.plainAttrs_tuple, PySem.F.slot_tuple_count, PySem.F.type_tuple_count, ⟨_, at1, rfl⟩, fun b eb => by cases eb; exact ⟨_, at1, rfl⟩, run _ fun us s2 ys H2 I2 r2 w => ?_⟩
    obtain ⟨k, t, its, n, sl, rfl, at2, rv, q2⟩ := one I2 r2 w
    have hi := ints_of_vals rv
    refine call_meets PySem.F.slot_tuple_count ⟨_, at2, rfl⟩ PySem.F.entry_tuple_count (PySem.F.args_tuple_count_2 _ _) (SeqAt.tuple_countAt a its n none sl (.int k t) (eqk k)) ⟨at2, fun y hy => (eqk_gives hi y (by simpa using hy)).at _ _, ?_⟩
    exact ⟨.int (ns.count k : Nat), H2, I2.tok _, ⟨s2.toks, by rw [eqk_count hi]⟩, q2⟩
end
end Pu
set_option Elab.async false
set_option linter.all false
set_option maxRecDepth 100000
set_option maxHeartbeats 2000000
set_option autoImplicit false
namespace Pu
open PySem L2

noncomputable def pVar (i : Nat) : PX := fun δ P _ => match δ[i]? with | some (some (.d d)) => P d | _ => False
noncomputable def pVarV (i : Nat) : PX := fun δ P _ => match δ[i]? with | some (some (.d d)) => P d | some (some (.own _ ds)) => P (.lst ds) | _ => False
noncomputable def pC (d : D) : PX := fun _ P _ => P d
noncomputable abbrev POp := D → D → (D → Prop) → Prop
noncomputable def pOp (f : POp) (pa pb : PX) : PX := fun δ P P2 => pa δ (fun x => pb δ (fun y => f x y P) P2) P2
noncomputable abbrev PUn := D → (D → Prop) → Prop
noncomputable def pUn (f : PUn) (pa : PX) : PX := fun δ P P2 => pa δ (fun x => f x P) P2

section
variable {X : Cx} {E : L2.St → XK}
theorem LX.v {e : Expr} {te : TE} {pe : PX} (h : LX X E e te pe) : LV X E e te pe :=
  ⟨h.py, fun k s x p q => h.le k s x p fun v d G' H' y r pd => q v d G' H' y (.inl r) pd⟩
theorem LO.x {e : Expr} {te : TE} {pe : PX} (h : LO X E e te pe) : LX X E e te pe :=
  ⟨h.py, fun k s x p q => h.le k s x p fun a xs ds G' H' y hn hp gp r pd =>
    q (.ref a) (.lst ds) _ H' (y.share hn hp gp) (.lst (by show updG G' a _ a = _; exact updG_same) (r.mono (updG_keep gp))) pd⟩
theorem LO.v {e : Expr} {te : TE} {pe : PX} (h : LO X E e te pe) : LV X E e te pe := h.x.v

theorem lx_var (i : Nat) {x : Str} {pos : Pos} (hN : X.N[i]? = some x := by rfl) (hv : Vis X.env.scope x := by first | exact Or.inl rfl | exact Or.inr (Or.inl rfl) | exact Or.inr (Or.inr rfl))
    (hd : (x == ("__debug__" : Str)) = false := by decide) (hcd : (x == ("__classdict__" : Str)) = false := by decide) : LX X E (.Name x pos) (tVar i) (pVar i) := by
  refine ⟨pe_var hN hv hd hcd, fun {δ σ G H H0 Q P P2} k s x p q => ?_⟩
  unfold pVar at p
  split at p
  · rename_i d hd'
    obtain ⟨v, e, r⟩ := s.at_ i _ hd'
    cases r with
    | d r => exact ⟨v, e, q v d G H (.refl k) r p⟩
  · exact p.elim
theorem lv_var (i : Nat) {x : Str} {pos : Pos} (hN : X.N[i]? = some x := by rfl) (hv : Vis X.env.scope x := by first | exact Or.inl rfl | exact Or.inr (Or.inl rfl) | exact Or.inr (Or.inr rfl))
    (hd : (x == ("__debug__" : Str)) = false := by decide) (hcd : (x == ("__classdict__" : Str)) = false := by decide) : LV X E (.Name x pos) (tVar i) (pVarV i) := by
  refine ⟨pe_var hN hv hd hcd, fun {δ σ G H H0 Q P P2} k s x p q => ?_⟩
  unfold pVarV at p
  split at p
  · rename_i d hd'
    obtain ⟨v, e, r⟩ := s.rvD hd'
    exact ⟨v, e, q v _ G H (.refl k) (.inl r) p⟩
  · rename_i oa d hd'
    obtain ⟨v, e, r⟩ := s.rvO hd'
    exact ⟨v, e, q v _ G H (.refl k) r p⟩
  · exact p.elim
theorem lx_int {i : Int} {j : Nat} {pos : Pos} : LX X E (.Constant (.int i) j pos) (tC (.int i)) (pC (.int i)) := ⟨pe_int, fun k s x p q => q _ _ _ _ (.refl k) (.int i) p⟩
theorem lx_bl {b : Bool} {j : Nat} {pos : Pos} : LX X E (.Constant (.bool b) j pos) (tC (.bl b)) (pC (.bl b)) := ⟨pe_bl, fun k s x p q => q _ _ _ _ (.refl k) (.bl b) p⟩
theorem lx_non {j : Nat} {pos : Pos} : LX X E (.Constant .none j pos) (tC .non) (pC .non) := ⟨pe_non, fun k s x p q => q _ _ _ _ (.refl k) .non p⟩
theorem lx_str {x : Str} {j : Nat} {pos : Pos} : LX X E (.Constant (.str x) j pos) (tC (.str x)) (pC (.str x)) := ⟨pe_str, fun k s y p q => q _ _ _ _ (.refl k) (.str x) p⟩
theorem lx_glob {x : Str} {v : V} {u : Value} {d : D} {pos : Pos} (hg : Gl X x) (hm : X.mg x = some u) (r : RelV v u) (hR : ∀ G, R (cx X) G v d) (hd : (x == ("__debug__" : Str)) = false := by decide) :
    LX X E (.Name x pos) (tC v) (pC d) := ⟨pe_glob hg hm r hd, fun k s y p q => q _ _ _ _ (.refl k) (hR _) p⟩

structure OL (X : Cx) (r : R2) (f : POp) : Prop where
  le : ∀ {G : Gp} {H : Hp} {x y : V} {dx dy : D} {Q : VK} {P : D → Prop}, Ok G H → RV (cx X) G H x dx → RV (cx X) G H y dy → f dx dy P →
    (∀ v d G' H', Ext G H G' H' → R (cx X) G' v d → P d → Q v H') → r x y H Q
structure UL (X : Cx) (r : V → Hp → VK → Prop) (f : PUn) : Prop where
  le : ∀ {G : Gp} {H : Hp} {x : V} {dx : D} {Q : VK} {P : D → Prop}, Ok G H → RV (cx X) G H x dx → f dx P →
    (∀ v d G' H', Ext G H G' H' → R (cx X) G' v d → P d → Q v H') → r x H Q
theorem op_le {r : R2} {f : POp} {a b : Expr} {ta tb : TE} {pa pb : PX} (ol : OL X r f) (ha : LV X E a ta pa) (hb : LV X E b tb pb) {δ : Dl} {σ : St} {G : Gp} {H H0 : Hp} {Q : VK} {P : D → Prop} {P2 : Exn → Prop}
    (k : Ok G H) (s : SRel (cx X) H0 G H σ δ) (x : EOk (cx X) G H (E σ) P2) (p : pOp f pa pb δ P P2) (q : ∀ v d G' H', Ext G H G' H' → R (cx X) G' v d → P d → Q v H') : tOp r ta tb σ H Q := by
  refine ha.le k s x p fun v d G1 H1 y1 r1 p1 => ?_
  refine hb.le y1.ok (s.ext y1) (x.ext y1) p1 fun u d2 G2 H2 y2 r2 p2 => ?_
  exact ol.le y2.ok (r1.ext y2) r2 p2 fun w d3 G3 H3 y3 r3 p3 => q w d3 G3 H3 ((y1.trans y2).trans y3) r3 p3
theorem lx_bin {op : Operator} {r : R2} {f : POp} {a b : Expr} {ta tb : TE} {pa pb : PX} {pos : Pos} (ho : OpR X (binaryOp op) r) (ol : OL X r f) (ha : LV X E a ta pa) (hb : LV X E b tb pb) : LX X E (.BinOp a op b pos) (tOp r ta tb) (pOp f pa pb) :=
  ⟨pe_op ho ha.py hb.py, op_le ol ha hb⟩
theorem lx_cmp {op : CmpOp} {r : R2} {f : POp} {a b : Expr} {ta tb : TE} {pa pb : PX} {pos : Pos} (ho : OpR X (compareOp op) r) (ol : OL X r f) (ha : LV X E a ta pa) (hb : LV X E b tb pb) (hm : behindInMarks op b = false) : LX X E (.Compare a [op] [b] pos) (tOp r ta tb) (pOp f pa pb) :=
  ⟨pe_cmpR ho ha.py hb.py hm, op_le ol ha hb⟩
theorem lx_un {op : UnaryOp} {r : V → Hp → VK → Prop} {f : PUn} {a : Expr} {ta : TE} {pa : PX} {pos : Pos} (ho : UnR X (unaryOp op) r) (ol : UL X r f) (ha : LV X E a ta pa) : LX X E (.UnaryOp op a pos) (tUn r ta) (pUn f pa) :=
  ⟨pe_un ho ha.py, fun k s x p q => ha.le k s x p fun v d G1 H1 y1 r1 p1 => ol.le y1.ok r1 p1 fun w d3 G3 H3 y3 r3 p3 => q w d3 G3 H3 (y1.trans y3) r3 p3⟩
theorem OL.or {r r' : R2} {f f' : POp} (h : OL X r f) (h' : OL X r' f') : OL X (fun x y H Q => r x y H Q ∨ r' x y H Q) (fun x y P => f x y P ∨ f' x y P) :=
  ⟨fun k rx ry p q => by
    rcases p with p | p
    · exact .inl (h.le k rx ry p q)
    · exact .inr (h'.le k rx ry p q)⟩
theorem RV.int {C : Ctx} {G : Gp} {H : Hp} {v : V} {i : Int} (r : RV C G H v (.int i)) : v = .int i := by
  cases r.scal (fun _ z => by cases z) with
  | int i => rfl
theorem RV.bl {C : Ctx} {G : Gp} {H : Hp} {v : V} {i : Bool} (r : RV C G H v (.bl i)) : v = .bl i := by
  cases r.scal (fun _ z => by cases z) with
  | bl i => rfl
theorem RV.str {C : Ctx} {G : Gp} {H : Hp} {v : V} {i : Str} (r : RV C G H v (.str i)) : v = .str i := by
  cases r.scal (fun _ z => by cases z) with
  | str i => rfl
noncomputable def fI (C : Int → Int → Prop) (g : Int → Int → D) : POp := fun x y P => match x, y with | .int i, .int j => C i j ∧ P (g i j) | _, _ => False
theorem ol_I {C : Int → Int → Prop} {g : Int → Int → V} {gd : Int → Int → D} (hR : ∀ Cx G i j, R Cx G (g i j) (gd i j)) : OL X (rI C g) (fI C gd) := by
  refine ⟨fun {G H x y dx dy Q P} k rx ry p q => ?_⟩
  unfold fI at p
  split at p
  · exact ⟨_, _, rx.int, ry.int, p.1, q _ _ _ _ (.refl k) (hR _ _ _ _) p.2⟩
  · exact p.elim
noncomputable def fI0 (g : Int → Int → D) : POp := fun x y P => match x, y with | .int i, .int j => P (g i j) | _, _ => False
theorem ol_I0 {g : Int → Int → V} {gd : Int → Int → D} (hR : ∀ Cx G i j, R Cx G (g i j) (gd i j)) : OL X (rI0 g) (fI0 gd) := by
  refine ⟨fun {G H x y dx dy Q P} k rx ry p q => ?_⟩
  unfold fI0 at p
  split at p
  · exact ⟨_, _, rx.int, ry.int, q _ _ _ _ (.refl k) (hR _ _ _ _) p⟩
  · exact p.elim
noncomputable abbrev fLt : POp := fI0 fun i j => .bl (decide (i < j))
noncomputable abbrev fLe : POp := fI0 fun i j => .bl (decide (i ≤ j))
noncomputable abbrev fGt : POp := fI0 fun i j => .bl (decide (j < i))
noncomputable abbrev fGe : POp := fI0 fun i j => .bl (decide (j ≤ i))
noncomputable abbrev fSub : POp := fI0 fun i j => .int (i - j)
noncomputable abbrev fMod : POp := fI (fun _ j => 0 < j) fun i j => .int (i % j)
noncomputable abbrev fDiv : POp := fI CDivW fun i j => .int (i / j)
noncomputable abbrev fPow : POp := fI CPow fun i j => .int (i ^ j.toNat)
theorem ol_lt : OL X (rI0 fun i j => .bl (decide (i < j))) fLt := ol_I0 fun _ _ _ _ => .bl _
theorem ol_le : OL X (rI0 fun i j => .bl (decide (i ≤ j))) fLe := ol_I0 fun _ _ _ _ => .bl _
theorem ol_gt : OL X (rI0 fun i j => .bl (decide (j < i))) fGt := ol_I0 fun _ _ _ _ => .bl _
theorem ol_ge : OL X (rI0 fun i j => .bl (decide (j ≤ i))) fGe := ol_I0 fun _ _ _ _ => .bl _
theorem ol_sub : OL X (rI0 fun i j => .int (i - j)) fSub := ol_I0 fun _ _ _ _ => .int _
theorem ol_mod : OL X (rI (fun _ j => 0 < j) fun i j => .int (i % j)) fMod := ol_I fun _ _ _ _ => .int _
theorem ol_div : OL X (rI CDivW fun i j => .int (i / j)) fDiv := ol_I fun _ _ _ _ => .int _
theorem ol_pow : OL X (rI CPow fun i j => .int (i ^ j.toNat)) fPow := ol_I fun _ _ _ _ => .int _

noncomputable abbrev szl : Nat := 16777216
noncomputable def fAdd : POp := fun x y P => match x, y with
  | .int i, .int j => P (.int (i + j))
  | .lst a, .lst b => a.length + b.length ≤ szl ∧ P (.lst (a ++ b))
  | .vw a, .lst b => a.length + b.length ≤ szl ∧ P (.lst (a ++ b))
  | .lst a, .vw b => a.length + b.length ≤ szl ∧ P (.lst (a ++ b))
  | .vw a, .vw b => a.length + b.length ≤ szl ∧ P (.lst (a ++ b))
  | .tup a, .tup b => a.length + b.length ≤ szl ∧ P (.tup (a ++ b))
  | .str a, .str b => a.length + b.length ≤ szl ∧ P (.str (a ++ b))
  | _, _ => False
noncomputable def rAddStr : R2 := fun x y H Q => ∃ i j, x = .str i ∧ y = .str j ∧ i.length + j.length ≤ sizeLine ∧ Q (.str (i ++ j)) H
noncomputable def rAddAll (K : PySem.W.Frag) : R2 := fun x y H Q => (rI0 fun i j => .int (i + j)) x y H Q ∨ rCat x y H Q ∨ rCatN K x y H Q ∨ rAddStr x y H Q
theorem op_addAll : OpR X (binaryOp .Add) (rAddAll X.K) := op_add.or (op_cat.or (op_catN.or op_add_str))
theorem RV.tupR {C : Ctx} {G : Gp} {H : Hp} {v : V} {ds : List D} (r : RV C G H v (.tup ds)) : R C G v (.tup ds) := r.scal fun _ z => by cases z
theorem ol_add : OL X (rAddAll X.K) fAdd := by
  refine ⟨fun {G H x y dx dy Q P} k rx ry p q => ?_⟩
  unfold fAdd at p
  split at p
  · exact .inl ⟨_, _, rx.int, ry.int, q _ _ _ _ (.refl k) (.int _) p⟩
  · obtain ⟨a, xs, e1, h1, r1⟩ := rx.lst k
    obtain ⟨b, ys, e2, h2, r2⟩ := ry.lst k
    refine .inr (.inl ⟨a, b, xs, ys, e1, e2, h1, h2, by rw [r1.length, r2.length, sizeLine_eq]; exact p.1, fun l hl => ?_⟩)
    exact q _ (.lst _) _ _ (Ext.newG k hl) (.lst (by show updG G l _ l = _; exact updG_same) ((r1.append r2).mono (updG_keep (k.none_of hl)))) p.2
  · obtain ⟨a, xs, e1, h1, r1⟩ := rx.vw k
    obtain ⟨b, ys, e2, h2, r2⟩ := ry.lst k
    refine .inr (.inl ⟨a, b, xs, ys, e1, e2, h1, h2, by rw [r1.length, r2.length, sizeLine_eq]; exact p.1, fun l hl => ?_⟩)
    exact q _ (.lst _) _ _ (Ext.newG k hl) (.lst (by show updG G l _ l = _; exact updG_same) ((r1.append r2).mono (updG_keep (k.none_of hl)))) p.2
  · obtain ⟨a, xs, e1, h1, r1⟩ := rx.lst k
    obtain ⟨b, ys, e2, h2, r2⟩ := ry.vw k
    refine .inr (.inl ⟨a, b, xs, ys, e1, e2, h1, h2, by rw [r1.length, r2.length, sizeLine_eq]; exact p.1, fun l hl => ?_⟩)
    exact q _ (.lst _) _ _ (Ext.newG k hl) (.lst (by show updG G l _ l = _; exact updG_same) ((r1.append r2).mono (updG_keep (k.none_of hl)))) p.2
  · obtain ⟨a, xs, e1, h1, r1⟩ := rx.vw k
    obtain ⟨b, ys, e2, h2, r2⟩ := ry.vw k
    refine .inr (.inl ⟨a, b, xs, ys, e1, e2, h1, h2, by rw [r1.length, r2.length, sizeLine_eq]; exact p.1, fun l hl => ?_⟩)
    exact q _ (.lst _) _ _ (Ext.newG k hl) (.lst (by show updG G l _ l = _; exact updG_same) ((r1.append r2).mono (updG_keep (k.none_of hl)))) p.2
  · have rx' := rx.tupR
    have ry' := ry.tupR
    obtain ⟨a, xs, e1, h1, r1⟩ := rx.tup k
    obtain ⟨b, ys, e2, h2, r2⟩ := ry.tup k
    have l1 := r1.length
    have l2 := r2.length
    refine .inr (.inr (.inl ⟨a, b, xs, ys, e1, e2, h1, h2, by rw [l1, l2, sizeLine_eq]; exact p.1, fun z => ?_, fun _ z => ?_, fun _ _ l o hl ho => ?_⟩))
    · subst z
      have e : _ = [] := List.eq_nil_of_length_eq_zero l1.symm
      have p2 := p.2
      rw [e, List.nil_append] at p2
      rw [← e2]
      exact q _ _ _ _ (.refl k) ry' p2
    · subst z
      have e : _ = [] := List.eq_nil_of_length_eq_zero l2.symm
      have p2 := p.2
      rw [e, List.append_nil] at p2
      rw [← e1]
      exact q _ _ _ _ (.refl k) rx' p2
    · obtain ⟨x1, x2⟩ := Ext.newT (C := cx X) (o := o) k hl ho (r1.append r2)
      exact q _ (.tup _) _ _ x1 x2 p.2
  · exact .inr (.inr (.inr ⟨_, _, rx.str, ry.str, by rw [sizeLine_eq]; exact p.1, q _ _ _ _ (.refl k) (.str _) p.2⟩))
  · exact p.elim
noncomputable def mulOk (i j : Int) : Prop := CMul i j ∨ CMulW i j
noncomputable def fMul : POp := fun x y P => match x, y with
  | .int i, .int j => mulOk i j ∧ P (.int (i * j))
  | .lst a, .int j => -(2 ^ 63) ≤ j ∧ j < 2 ^ 63 ∧ a.length * j.toNat ≤ szl ∧ P (.lst (List.replicate j.toNat a).flatten)
  | .vw a, .int j => -(2 ^ 63) ≤ j ∧ j < 2 ^ 63 ∧ a.length * j.toNat ≤ szl ∧ P (.lst (List.replicate j.toNat a).flatten)
  | _, _ => False
noncomputable def rMulAll : R2 := fun x y H Q => (rI CMul fun i j => .int (i * j)) x y H Q ∨ (rI CMulW fun i j => .int (i * j)) x y H Q ∨ rRep x y H Q
theorem op_mulAll : OpR X (binaryOp .Mult) rMulAll := op_mul.or (op_mulW.or op_rep)
theorem RAll.rep {C : Ctx} {G : Gp} {xs : List V} {ds : List D} (r : RAll C G xs ds) : ∀ n : Nat, RAll C G (List.replicate n xs).flatten (List.replicate n ds).flatten
  | 0 => .nil
  | n + 1 => by
    rw [List.replicate_succ, List.replicate_succ, List.flatten_cons, List.flatten_cons]
    exact r.append (RAll.rep r n)
theorem ol_mul : OL X rMulAll fMul := by
  refine ⟨fun {G H x y dx dy Q P} k rx ry p q => ?_⟩
  unfold fMul at p
  split at p
  · rcases p.1 with c | c
    · exact .inl ⟨_, _, rx.int, ry.int, c, q _ _ _ _ (.refl k) (.int _) p.2⟩
    · exact .inr (.inl ⟨_, _, rx.int, ry.int, c, q _ _ _ _ (.refl k) (.int _) p.2⟩)
  · obtain ⟨a, xs, e1, h1, r1⟩ := rx.lst k
    refine .inr (.inr ⟨a, _, xs, e1, ry.int, h1, p.1, p.2.1, by rw [r1.length, sizeLine_eq]; exact p.2.2.1, fun l hl => ?_⟩)
    exact q _ (.lst _) _ _ (Ext.newG k hl) (.lst (by show updG G l _ l = _; exact updG_same) ((r1.rep _).mono (updG_keep (k.none_of hl)))) p.2.2.2
  · obtain ⟨a, xs, e1, h1, r1⟩ := rx.vw k
    refine .inr (.inr ⟨a, _, xs, e1, ry.int, h1, p.1, p.2.1, by rw [r1.length, sizeLine_eq]; exact p.2.2.1, fun l hl => ?_⟩)
    exact q _ (.lst _) _ _ (Ext.newG k hl) (.lst (by show updG G l _ l = _; exact updG_same) ((r1.rep _).mono (updG_keep (k.none_of hl)))) p.2.2.2
  · exact p.elim
noncomputable def fNeg : PUn := fun x P => match x with | .int i => P (.int (-i)) | _ => False
theorem ul_neg : UL X (rU fun i => .int (-i)) fNeg := by
  refine ⟨fun {G H x dx Q P} k rx p q => ?_⟩
  unfold fNeg at p
  split at p
  · exact ⟨_, rx.int, q _ _ _ _ (.refl k) (.int _) p⟩
  · exact p.elim

mutual
noncomputable def toPy : D → Option PyData
  | .non => some .none
  | .bl b => some (.bool b)
  | .int i => some (.int i)
  | .str x => some (.str x)
  | .lst ds => (toPyAll ds).map .list
  | .vw ds => (toPyAll ds).map .list
  | .tup ds => (toPyAll ds).map .tuple
  | .obj _ _ => none
  | .pool => none
  | .cls _ => none
  | .script _ => none
  | .pin _ _ => none
noncomputable def toPyAll : List D → Option (List PyData)
  | [] => some []
  | d :: ds => match toPy d, toPyAll ds with
    | some a, some b => some (a :: b)
    | _, _ => none
end
section
variable {C : Ctx} {G : Gp} {H : Hp}
mutual
theorem dp_R (k : Ok G H) : ∀ {v : V} {d : D} {p : PyData}, R C G v d → toPy d = some p → Dp C.K H v p
  | _, _, _, .non, e => by cases e; exact .non
  | _, _, _, .bl b, e => by cases e; exact .bl b
  | _, _, _, .int i, e => by cases e; exact .int i
  | _, _, _, .str x, e => by cases e; exact .str x
  | _, .lst ds, p, .lst h r, e => by
    unfold toPy at e
    cases e2 : toPyAll ds with
    | none => rw [e2] at e; cases e
    | some ps => rw [e2] at e; cases e; exact .lst (SqL.of (k.fz h)) (dp_RAll k r e2)
  | _, .vw ds, p, .vw h r, e => by
    unfold toPy at e
    cases e2 : toPyAll ds with
    | none => rw [e2] at e; cases e
    | some ps => rw [e2] at e; cases e; exact .lst (SqL.of (k.vw h)) (dp_RAll k r e2)
  | _, .tup ds, p, .tup h r, e => by
    unfold toPy at e
    cases e2 : toPyAll ds with
    | none => rw [e2] at e; cases e
    | some ps => rw [e2] at e; cases e; exact .tup (h.seq k) (dp_RAll k r e2)
  | _, _, _, .obj _ _ _ _, e => by unfold toPy at e; cases e
  | _, _, _, .pool _, e => by unfold toPy at e; cases e
  | _, _, _, .cls _, e => by unfold toPy at e; cases e
  | _, _, _, .script _, e => by unfold toPy at e; cases e
  | _, _, _, .pin _, e => by unfold toPy at e; cases e
theorem dp_RAll (k : Ok G H) : ∀ {vs : List V} {ds : List D} {ps : List PyData}, RAll C G vs ds → toPyAll ds = some ps → DpAll C.K H vs ps
  | _, _, _, .nil, e => by unfold toPyAll at e; cases e; exact .nil
  | _, d :: ds, _, .cons r t, e => by
    unfold toPyAll at e
    cases e1 : toPy d with
    | none => rw [e1] at e; cases e
    | some a =>
      cases e2 : toPyAll ds with
      | none => rw [e1, e2] at e; cases e
      | some b => rw [e1, e2] at e; cases e; exact .cons (dp_R k r e1) (dp_RAll k t e2)
end
theorem dp_RV (k : Ok G H) {v : V} {d : D} {p : PyData} (r : RV C G H v d) (e : toPy d = some p) : Dp C.K H v p := by
  rcases r with r | ⟨a, xs, ds, rfl, rfl, h, g, r⟩
  · exact dp_R k r e
  · unfold toPy at e
    cases e2 : toPyAll ds with
    | none => rw [e2] at e; cases e
    | some ps => rw [e2] at e; cases e; exact .lst (SqL.of h) (dp_RAll k r e2)
end
noncomputable def fEq : POp := fun x y P => ∃ a b, toPy x = some a ∧ toPy y = some b ∧ SeqAt.shaped a = true ∧ SeqAt.shaped b = true ∧ P (.bl (PyData.eqv a b))
noncomputable def fNe : POp := fun x y P => ∃ a b, toPy x = some a ∧ toPy y = some b ∧ SeqAt.shaped a = true ∧ SeqAt.shaped b = true ∧ P (.bl (!PyData.eqv a b))
theorem ol_eq : OL X (rEqD X.K) fEq := ⟨fun k rx ry ⟨a, b, ea, eb, sa, sb, p⟩ q => ⟨a, b, dp_RV k rx ea, dp_RV k ry eb, sa, sb, q _ _ _ _ (.refl k) (.bl _) p⟩⟩
theorem ol_ne : OL X (rNeD X.K) fNe := ⟨fun k rx ry ⟨a, b, ea, eb, sa, sb, p⟩ q => ⟨a, b, dp_RV k rx ea, dp_RV k ry eb, sa, sb, q _ _ _ _ (.refl k) (.bl _) p⟩⟩
noncomputable def isNon : D → Bool
  | .non => true
  | _ => false
noncomputable def rIsN : R2 := fun x y H Q => y = .non ∧ Q (.bl (decide (x = .non))) H
theorem dec_non {C : Ctx} {G : Gp} {H : Hp} {v : V} {d : D} (r : RV C G H v d) : decide (v = .non) = isNon d := by
  rcases r with r | ⟨a, xs, ds, rfl, rfl, h, g, r⟩
  · cases r <;> rfl
  · rfl
noncomputable def fIsN : POp := fun x y P => match y with | .non => P (.bl (isNon x)) | _ => False
noncomputable def fNotN : POp := fun x y P => match y with | .non => P (.bl (!isNon x)) | _ => False

theorem ol_isN : OL X (fun x y H Q => y = .non ∧ Q (.bl (decide (x = .non))) H) fIsN := by
  refine ⟨fun {G H x y dx dy Q P} k rx ry p q => ?_⟩
  unfold fIsN at p
  split at p
  · cases ry.scal (fun _ z => by cases z) with
    | non => exact ⟨rfl, by rw [dec_non rx]; exact q _ _ _ _ (.refl k) (.bl _) p⟩
  · exact p.elim
noncomputable def fIsB : POp := fun x y P => match x, y with | .bl a, .bl b => P (.bl (decide (a = b))) | _, _ => False
noncomputable def fNotB : POp := fun x y P => match x, y with | .bl a, .bl b => P (.bl (!decide (a = b))) | _, _ => False
noncomputable def flatD : D → Bool
  | .non => true
  | .bl _ => true
  | .int _ => true
  | .str _ => true
  | _ => false
noncomputable def eqF : D → D → Bool
  | .non, .non => true
  | .bl a, .bl b => a == b
  | .bl a, .int b => (if a then 1 else 0) == b
  | .int a, .bl b => a == (if b then 1 else 0)
  | .int a, .int b => a == b
  | .str a, .str b => a == b
  | _, _ => false
noncomputable def inF (x : D) (xs : List D) : Bool := xs.any fun y => eqF y x
noncomputable def itemsD : D → Option (List D)
  | .lst ds => some ds
  | .vw ds => some ds
  | .tup ds => some ds
  | _ => none
theorem RV.items {C : Ctx} {G : Gp} {H : Hp} {v : V} {d : D} {ds : List D} (k : Ok G H) (r : RV C G H v d) (e : itemsD d = some ds) : ∃ a xs, v = .ref a ∧ (SqL C.K H a xs ∨ SqT C.K H a xs) ∧ RAll C G xs ds := by
  unfold itemsD at e
  split at e
  · cases e
    obtain ⟨a, xs, e, h, r⟩ := r.lst k
    exact ⟨a, xs, e, .inl (SqL.of h), r⟩
  · cases e
    obtain ⟨a, xs, e, h, r⟩ := r.vw k
    exact ⟨a, xs, e, .inl (SqL.of h), r⟩
  · cases e
    obtain ⟨a, xs, e, h, r⟩ := r.tup k
    exact ⟨a, xs, e, .inr h, r⟩
  · cases e
noncomputable def fIn (neg : Bool) : POp := fun x y P => flatD x = true ∧ ∃ ds, itemsD y = some ds ∧ ds.all flatD = true ∧ P (.bl (if neg then !inF x ds else inF x ds))
noncomputable def fInD (neg : Bool) : POp := fun x y P => ∃ d ds, toPy x = some d ∧ toPy y = some (.list ds) ∧ SeqAt.shaped d = true ∧ SeqAt.shaped (.list ds) = true ∧ P (.bl (if neg then !(ds.any fun z => PyData.eqv z d) else ds.any fun z => PyData.eqv z d))

inductive RVAll (C : Ctx) (G : Gp) (H : Hp) : List V → List D → Prop
  | nil : RVAll C G H [] []
  | cons {v d vs ds} : RV C G H v d → RVAll C G H vs ds → RVAll C G H (v :: vs) (d :: ds)
noncomputable def pNil : PAx := fun _ P _ => P []
noncomputable def pCons (pe : PX) (pa : PAx) : PAx := fun δ P P2 => pe δ (fun x => pa δ (fun xs => P (x :: xs)) P2) P2
theorem la_nil : LA X E [] tNil pNil := ⟨pa_nil, fun k s x p q => q _ _ _ _ (.refl k) .nil p⟩
theorem la_cons {e : Expr} {es : List Expr} {te : TE} {ta : TA} {pe : PX} {pa : PAx} (he : LX X E e te pe) (ha : LA X E es ta pa) (hs : starEach (e :: es) X.env = (false, eval e X.env) :: starEach es X.env := by rfl) : LA X E (e :: es) (tCons te ta) (pCons pe pa) :=
  ⟨pa_cons he.py ha.py hs, fun k s x p q => he.le k s x p fun v d G1 H1 y1 r1 p1 => ha.le y1.ok (s.ext y1) (x.ext y1) p1 fun vs ds G2 H2 y2 r2 p2 =>
    q _ _ G2 H2 (y1.trans y2) (.cons (r1.mono y2.g) r2) p2⟩
structure LW (X : Cx) (E : St → XK) (es : List Expr) (ta : TA) (pa : PAx) : Prop where
  py : PA X es ta
  le : ∀ {δ : Dl} {σ : St} {G : Gp} {H H0 : Hp} {Q : List V → Hp → Prop} {P : List D → Prop} {P2 : Exn → Prop}, Ok G H → SRel (cx X) H0 G H σ δ → EOk (cx X) G H (E σ) P2 → pa δ P P2 →
    (∀ vs ds G' H', Ext G H G' H' → RVAll (cx X) G' H' vs ds → P ds → Q vs H') → ta σ H Q
theorem lw_nil : LW X E [] tNil pNil := ⟨pa_nil, fun k s x p q => q _ _ _ _ (.refl k) .nil p⟩
theorem lw_cons {e : Expr} {es : List Expr} {te : TE} {ta : TA} {pe : PX} {pa : PAx} (he : LV X E e te pe) (ha : LW X E es ta pa) (hs : starEach (e :: es) X.env = (false, eval e X.env) :: starEach es X.env := by rfl) : LW X E (e :: es) (tCons te ta) (pCons pe pa) :=
  ⟨pa_cons he.py ha.py hs, fun k s x p q => he.le k s x p fun v d G1 H1 y1 r1 p1 => ha.le y1.ok (s.ext y1) (x.ext y1) p1 fun vs ds G2 H2 y2 r2 p2 =>
    q _ _ G2 H2 (y1.trans y2) (.cons (r1.ext y2) r2) p2⟩
noncomputable abbrev PFn := List D → (D → Prop) → Prop
structure CL (X : Cx) (r : List V → Hp → VK → Prop) (f : PFn) : Prop where
  le : ∀ {G : Gp} {H : Hp} {vs : List V} {ds : List D} {Q : VK} {P : D → Prop}, Ok G H → RVAll (cx X) G H vs ds → f ds P →
    (∀ v d G' H', Ext G H G' H' → R (cx X) G' v d → P d → Q v H') → r vs H Q
structure CLo (X : Cx) (r : List V → Hp → VK → Prop) (f : PFn) : Prop where
  le : ∀ {G : Gp} {H : Hp} {vs : List V} {ds : List D} {Q : VK} {P : D → Prop}, Ok G H → RVAll (cx X) G H vs ds → f ds P →
    (∀ p xs es G' H', Ext G H G' H' → H p = none → H' p = some (.lst xs) → G' p = none → RAll (cx X) G' xs es → P (.lst es) → Q (.ref p) H') → r vs H Q
noncomputable def pCB (f : PFn) (pa : PAx) : PX := fun δ P P2 => pa δ (fun ds => f ds P) P2
theorem lx_callB {x : Str} {p pos : Pos} {e : Expr} {es : List Expr} {t : TA} {id : String} {r : List V → Hp → VK → Prop} {f : PFn} {pa : PAx} (hc : CallR X (.builtin id) r) (cl : CL X r f) (hg : Gl X x) (hm : X.mg x = none) (hv : bootBuiltins x = some (.builtin id)) (ha : LW X E (e :: es) t pa)
    (hn : x ≠ "__name__" := by decide) (hdb : (x == ("__debug__" : Str)) = false := by decide)
    (he : starEach (e :: es) X.env = (false, eval e X.env) :: starEach es X.env := by rfl) (hpl : (backTo pos (starEach es X.env)).any (·.1) = false := by rfl) : LX X E (.Call (.Name x p) (e :: es) [] pos) (tCB r t) (pCB f pa) :=
  ⟨pe_callB hc hg hm hv ha.py hn hdb he hpl, fun k s x p q => ha.le k s x p fun vs ds G1 H1 y1 r1 p1 => cl.le y1.ok r1 p1 fun w d3 G3 H3 y3 r3 p3 => q w d3 G3 H3 (y1.trans y3) r3 p3⟩
theorem lx_callT {x : Str} {p pos : Pos} {e : Expr} {es : List Expr} {t : TA} {T : String} {r : List V → Hp → VK → Prop} {f : PFn} {pa : PAx} (hc : CallR X (.type T) r) (cl : CL X r f) (hg : Gl X x) (hm : X.mg x = none) (hv : bootBuiltins x = some (.type T)) (ha : LW X E (e :: es) t pa)
    (hn : x ≠ "__name__" := by decide) (hdb : (x == ("__debug__" : Str)) = false := by decide)
    (he : starEach (e :: es) X.env = (false, eval e X.env) :: starEach es X.env := by rfl) (hpl : (backTo pos (starEach es X.env)).any (·.1) = false := by rfl) : LX X E (.Call (.Name x p) (e :: es) [] pos) (tCB r t) (pCB f pa) :=
  ⟨pe_callTy hc hg hm hv ha.py hn hdb he hpl, fun k s x p q => ha.le k s x p fun vs ds G1 H1 y1 r1 p1 => cl.le y1.ok r1 p1 fun w d3 G3 H3 y3 r3 p3 => q w d3 G3 H3 (y1.trans y3) r3 p3⟩
theorem lo_callB {x : Str} {p pos : Pos} {e : Expr} {es : List Expr} {t : TA} {id : String} {r : List V → Hp → VK → Prop} {f : PFn} {pa : PAx} (hc : CallR X (.builtin id) r) (cl : CLo X r f) (hg : Gl X x) (hm : X.mg x = none) (hv : bootBuiltins x = some (.builtin id)) (ha : LW X E (e :: es) t pa)
    (hn : x ≠ "__name__" := by decide) (hdb : (x == ("__debug__" : Str)) = false := by decide)
    (he : starEach (e :: es) X.env = (false, eval e X.env) :: starEach es X.env := by rfl) (hpl : (backTo pos (starEach es X.env)).any (·.1) = false := by rfl) : LO X E (.Call (.Name x p) (e :: es) [] pos) (tCB r t) (pCB f pa) :=
  ⟨pe_callB hc hg hm hv ha.py hn hdb he hpl, fun k s x p q => ha.le k s x p fun vs ds G1 H1 y1 r1 p1 => cl.le y1.ok r1 p1 fun l xs es G3 H3 y3 hn3 hp gp r3 p3 =>
    q l xs es G3 H3 (y1.trans y3) (y1.back hn3) hp gp r3 p3⟩
theorem lo_callT {x : Str} {p pos : Pos} {e : Expr} {es : List Expr} {t : TA} {T : String} {r : List V → Hp → VK → Prop} {f : PFn} {pa : PAx} (hc : CallR X (.type T) r) (cl : CLo X r f) (hg : Gl X x) (hm : X.mg x = none) (hv : bootBuiltins x = some (.type T)) (ha : LW X E (e :: es) t pa)
    (hn : x ≠ "__name__" := by decide) (hdb : (x == ("__debug__" : Str)) = false := by decide)
    (he : starEach (e :: es) X.env = (false, eval e X.env) :: starEach es X.env := by rfl) (hpl : (backTo pos (starEach es X.env)).any (·.1) = false := by rfl) : LO X E (.Call (.Name x p) (e :: es) [] pos) (tCB r t) (pCB f pa) :=
  ⟨pe_callTy hc hg hm hv ha.py hn hdb he hpl, fun k s x p q => ha.le k s x p fun vs ds G1 H1 y1 r1 p1 => cl.le y1.ok r1 p1 fun l xs es G3 H3 y3 hn3 hp gp r3 p3 =>
    q l xs es G3 H3 (y1.trans y3) (y1.back hn3) hp gp r3 p3⟩
theorem RVAll.one {C : Ctx} {G : Gp} {H : Hp} {vs : List V} {d : D} (r : RVAll C G H vs [d]) : ∃ v, vs = [v] ∧ RV C G H v d := by
  cases r with
  | cons r t => cases t; exact ⟨_, rfl, r⟩
theorem RVAll.two {C : Ctx} {G : Gp} {H : Hp} {vs : List V} {d e : D} (r : RVAll C G H vs [d, e]) : ∃ v w, vs = [v, w] ∧ RV C G H v d ∧ RV C G H w e := by
  cases r with
  | cons r t =>
    obtain ⟨w, rfl, r2⟩ := t.one
    exact ⟨_, _, rfl, r, r2⟩
noncomputable def fLen : PFn := fun ds P => match ds with | [.lst a] => P (.int a.length) | [.vw a] => P (.int a.length) | [.tup a] => P (.int a.length) | [.str x] => x.length ≤ szl ∧ P (.int x.length) | [.pin _ ns] => P (.int ns.length) | _ => False
theorem cl_len : CL X (fun xs H Q => ∃ x n, xs = [x] ∧ LenV X.K x H n ∧ Q (.int n) H) fLen := by
  refine ⟨fun {G H vs ds Q P} k r0 p q => ?_⟩
  unfold fLen at p
  split at p
  · obtain ⟨v, rfl, r⟩ := r0.one
    obtain ⟨a, xs, rfl, h, r⟩ := r.lst k
    exact ⟨_, _, rfl, .inl ⟨xs, SqL.of h, rfl⟩, by rw [r.length]; exact q _ _ _ _ (.refl k) (.int _) p⟩
  · obtain ⟨v, rfl, r⟩ := r0.one
    obtain ⟨a, xs, rfl, h, r⟩ := r.vw k
    exact ⟨_, _, rfl, .inl ⟨xs, SqL.of h, rfl⟩, by rw [r.length]; exact q _ _ _ _ (.refl k) (.int _) p⟩
  · obtain ⟨v, rfl, r⟩ := r0.one
    obtain ⟨a, xs, rfl, h, r⟩ := r.tup k
    exact ⟨_, _, rfl, .inr ⟨xs, h, rfl⟩, by rw [r.length]; exact q _ _ _ _ (.refl k) (.int _) p⟩
  · obtain ⟨v, rfl, r⟩ := r0.one
    obtain rfl := r.str
    exact ⟨_, _, rfl, ⟨by rw [sizeLine_eq]; exact p.1, rfl⟩, q _ _ _ _ (.refl k) (.int _) p.2⟩
  · obtain ⟨v, rfl, r⟩ := r0.one
    cases r.scal (fun _ z => by cases z) with
    | pin h => exact ⟨_, _, rfl, .inl ⟨_, SqL.of (k.lk h), rfl⟩, by rw [List.length_map]; exact q _ _ _ _ (.refl k) (.int _) p⟩
  · exact p.elim
noncomputable def fAbs : PFn := fun ds P => match ds with | [.int i] => P (.int (if i < 0 then -i else i)) | _ => False
theorem cl_abs : CL X (fun xs H Q => ∃ i, xs = [.int i] ∧ Q (.int (if i < 0 then -i else i)) H) fAbs := by
  refine ⟨fun {G H vs ds Q P} k r0 p q => ?_⟩
  unfold fAbs at p
  split at p
  · obtain ⟨v, rfl, r⟩ := r0.one
    obtain rfl := r.int
    exact ⟨_, rfl, q _ _ _ _ (.refl k) (.int _) p⟩
  · exact p.elim
noncomputable def fMax2 : PFn := fun ds P => match ds with | [.int i, .int j] => P (.int (if j > i then j else i)) | _ => False
theorem cl_max2 : CL X (fun xs H Q => ∃ i j, xs = [.int i, .int j] ∧ Q (.int (if j > i then j else i)) H) fMax2 := by
  refine ⟨fun {G H vs ds Q P} k r0 p q => ?_⟩
  unfold fMax2 at p
  split at p
  · obtain ⟨v, w, rfl, r, r2⟩ := r0.two
    obtain rfl := r.int
    obtain rfl := r2.int
    exact ⟨_, _, rfl, q _ _ _ _ (.refl k) (.int _) p⟩
  · exact p.elim
noncomputable def fMin2 : PFn := fun ds P => match ds with | [.int i, .int j] => P (.int (if j < i then j else i)) | _ => False
theorem cl_min2 : CL X (fun xs H Q => ∃ i j, xs = [.int i, .int j] ∧ Q (.int (if j < i then j else i)) H) fMin2 := by
  refine ⟨fun {G H vs ds Q P} k r0 p q => ?_⟩
  unfold fMin2 at p
  split at p
  · obtain ⟨v, w, rfl, r, r2⟩ := r0.two
    obtain rfl := r.int
    obtain rfl := r2.int
    exact ⟨_, _, rfl, q _ _ _ _ (.refl k) (.int _) p⟩
  · exact p.elim
noncomputable def fInt : PFn := fun ds P => match ds with | [.int i] => P (.int i) | [.bl b] => P (.int (if b then 1 else 0)) | _ => False
theorem cl_int : CL X (fun xs H Q => (∃ i, xs = [.int i] ∧ Q (.int i) H) ∨ ∃ k, xs = [.bl k] ∧ Q (.int (if k then 1 else 0)) H) fInt := by
  refine ⟨fun {G H vs ds Q P} k r0 p q => ?_⟩
  unfold fInt at p
  split at p
  · obtain ⟨v, rfl, r⟩ := r0.one
    obtain rfl := r.int
    exact .inl ⟨_, rfl, q _ _ _ _ (.refl k) (.int _) p⟩
  · obtain ⟨v, rfl, r⟩ := r0.one
    obtain rfl := r.bl
    exact .inr ⟨_, rfl, q _ _ _ _ (.refl k) (.int _) p⟩
  · exact p.elim
noncomputable def fBool : PFn := fun ds P => match ds with | [.int i] => P (.bl (i != 0)) | [.bl b] => P (.bl b) | _ => False
noncomputable def intsD : List D → Option (List Int)
  | [] => some []
  | .int i :: ds => (intsD ds).map (i :: ·)
  | _ :: _ => none
theorem intsD_map : ∀ ns : List Int, intsD (ns.map D.int) = some ns
  | [] => rfl
  | n :: ns => by rw [List.map_cons]; unfold intsD; rw [intsD_map ns]; rfl
theorem intsD_eq : ∀ {ds : List D} {ns : List Int}, intsD ds = some ns → ds = ns.map D.int
  | [], ns, h => by cases h; rfl
  | .int i :: ds, ns, h => by
    unfold intsD at h
    cases e : intsD ds with
    | none => rw [e] at h; cases h
    | some ms => rw [e] at h; cases h; rw [List.map_cons, intsD_eq e]
  | .non :: _, _, h => by cases h
  | .bl _ :: _, _, h => by cases h
  | .str _ :: _, _, h => by cases h
  | .lst _ :: _, _, h => by cases h
  | .tup _ :: _, _, h => by cases h
  | .obj _ _ :: _, _, h => by cases h
  | .pool :: _, _, h => by cases h
  | .cls _ :: _, _, h => by cases h
  | .script _ :: _, _, h => by cases h
  | .pin _ _ :: _, _, h => by cases h
  | .vw _ :: _, _, h => by cases h
noncomputable def fSum : PFn := fun ds P => match ds with | [.lst a] => (match intsD a with | some ns => P (.int ns.sum) | none => False) | [.vw a] => (match intsD a with | some ns => P (.int ns.sum) | none => False) | _ => False
noncomputable def fMaxL : PFn := fun ds P => match ds with | [.lst a] => (match intsD a with | some ns => 0 < ns.length ∧ ∀ m, m ∈ ns → (∀ y, y ∈ ns → y ≤ m) → P (.int m) | none => False) | [.vw a] => (match intsD a with | some ns => 0 < ns.length ∧ ∀ m, m ∈ ns → (∀ y, y ∈ ns → y ≤ m) → P (.int m) | none => False) | _ => False
theorem cl_maxL : CL X (rMax X.K) fMaxL := by
  refine ⟨fun {G H vs ds Q P} k r0 p q => ?_⟩
  unfold fMaxL at p
  split at p
  · split at p
    · rename_i ns e
      obtain ⟨v, rfl, r⟩ := r0.one
      obtain ⟨a, xs, rfl, h, r⟩ := r.lst k
      rw [intsD_eq e] at r
      rw [r.int] at h
      exact ⟨_, _, rfl, SqL.of h, p.1, fun m hm hl => q _ _ _ _ (.refl k) (.int _) (p.2 m hm hl)⟩
    · exact p.elim
  · split at p
    · rename_i ns e
      obtain ⟨v, rfl, r⟩ := r0.one
      obtain ⟨a, xs, rfl, h, r⟩ := r.vw k
      rw [intsD_eq e] at r
      rw [r.int] at h
      exact ⟨_, _, rfl, SqL.of h, p.1, fun m hm hl => q _ _ _ _ (.refl k) (.int _) (p.2 m hm hl)⟩
    · exact p.elim
  · exact p.elim
noncomputable def fMinL : PFn := fun ds P => match ds with | [.lst a] => (match intsD a with | some ns => 0 < ns.length ∧ ∀ m, m ∈ ns → (∀ y, y ∈ ns → m ≤ y) → P (.int m) | none => False) | [.vw a] => (match intsD a with | some ns => 0 < ns.length ∧ ∀ m, m ∈ ns → (∀ y, y ∈ ns → m ≤ y) → P (.int m) | none => False) | _ => False
noncomputable def fList : PFn := fun ds P => match ds with | [.script ns] => P (.lst (ns.map .int)) | [d] => (match itemsD d with | some es => P (.lst es) | none => False) | _ => False
theorem cl_list : CLo X (fun xs H Q => ∃ p ys, xs = [.ref p] ∧ (SqL X.K H p ys ∨ SqT X.K H p ys) ∧ ∀ l, H l = none → Q (.ref l) (upd H l (.lst ys))) fList := by
  refine ⟨fun {G H vs ds Q P} k r0 p q => ?_⟩
  unfold fList at p
  split at p
  · obtain ⟨v, rfl, r⟩ := r0.one
    cases r.scal (fun _ z => by cases z) with
    | script h => exact ⟨_, _, rfl, .inl (h.seq k), fun l hl => q l _ _ G _ (Ext.new k hl) hl upd_same (k.none_of hl) (RAll.ints _) p⟩
  · split at p
    · rename_i es e
      obtain ⟨v, rfl, r⟩ := r0.one
      obtain ⟨a, xs, rfl, h, r⟩ := r.items k e
      exact ⟨_, _, rfl, h, fun l hl => q l xs es G _ (Ext.new k hl) hl upd_same (k.none_of hl) r p⟩
    · exact p.elim
  · exact p.elim
noncomputable def fTuple : PFn := fun ds P => match ds with | [d] => (match itemsD d with | some es => P (.tup es) | none => False) | _ => False
theorem cl_tuple : CL X (rTupN X.K) fTuple := by
  refine ⟨fun {G H vs ds Q P} k r0 p q => ?_⟩
  unfold fTuple at p
  split at p
  · rename_i d
    split at p
    · rename_i es e
      obtain ⟨v, rfl, r⟩ := r0.one
      unfold itemsD at e
      split at e
      · cases e
        obtain ⟨a, xs, rfl, h, r⟩ := r.lst k
        exact ⟨_, _, rfl, .inl ⟨SqL.of h, fun l o hl ho => let ⟨x1, x2⟩ := Ext.newT (C := cx X) (o := o) k hl ho r; q _ (.tup _) _ _ x1 x2 p⟩⟩
      · cases e
        obtain ⟨a, xs, rfl, h, r⟩ := r.vw k
        exact ⟨_, _, rfl, .inl ⟨SqL.of h, fun l o hl ho => let ⟨x1, x2⟩ := Ext.newT (C := cx X) (o := o) k hl ho r; q _ (.tup _) _ _ x1 x2 p⟩⟩
      · cases e
        have r0 := r.tupR
        obtain ⟨a, xs, rfl, h, r⟩ := r.tup k
        exact ⟨_, _, rfl, .inr ⟨h, q _ _ _ _ (.refl k) r0 p⟩⟩
      · cases e
    · exact p.elim
  · exact p.elim
end
end Pu
set_option Elab.async false
set_option linter.all false
set_option maxRecDepth 100000
set_option maxHeartbeats 2000000
set_option autoImplicit false
namespace Pu
open PySem L2
section
variable {X : Cx} {E : L2.St → XK}
noncomputable def truD : D → Option Bool
  | .non => some false
  | .bl b => some b
  | .int i => some (i != 0)
  | .str x => if x.length ≤ szl then some ((x.length : Int) != 0) else none
  | .lst ds => some (!ds.isEmpty)
  | .vw ds => some (!ds.isEmpty)
  | .tup ds => some (!ds.isEmpty)
  | _ => none
theorem RAll.empty {C : Ctx} {G : Gp} {xs : List V} {ds : List D} (r : RAll C G xs ds) : xs.isEmpty = ds.isEmpty := by cases r <;> rfl
theorem RV.tru {C : Ctx} {G : Gp} {H : Hp} {v : V} {d : D} {b : Bool} (k : Ok G H) (r : RV C G H v d) (e : truD d = some b) : TruV C.K v H b := by
  unfold truD at e
  split at e
  · cases e
    cases r.scal (fun _ z => by cases z) with
    | non => rfl
  · cases e
    obtain rfl := r.bl
    rfl
  · cases e
    obtain rfl := r.int
    rfl
  · obtain rfl := r.str
    split at e
    · cases e
      rename_i h
      exact ⟨by rw [sizeLine_eq]; exact h, rfl⟩
    · cases e
  · cases e
    obtain ⟨a, xs, rfl, h, r⟩ := r.lst k
    exact .inl ⟨xs, SqL.of h, by rw [r.empty]⟩
  · cases e
    obtain ⟨a, xs, rfl, h, r⟩ := r.vw k
    exact .inl ⟨xs, SqL.of h, by rw [r.empty]⟩
  · cases e
    obtain ⟨a, xs, rfl, h, r⟩ := r.tup k
    exact .inr (.inl ⟨xs, h, by rw [r.empty]⟩)
  · cases e
noncomputable def pTru (pe : PX) : PTx := fun δ P P2 => pe δ (fun x => match truD x with | some b => P b | none => False) P2
theorem lt_truth {a : Expr} {ta : TE} {pe : PX} (ha : LV X E a ta pe) (he : ∀ whole, isTrue a X.env whole = (do let v ← whole; standAt a.pos; holding [v] (truthy v)) := by intro _; rfl) :
    LT X E a (fun σ H Q => ta σ H fun x H' => ∃ k, TruV X.K x H' k ∧ Q k H') (pTru pe) := by
  refine ⟨pt_truth ha.py he, fun k s x p q => ha.le k s x p fun v d G1 H1 y1 r1 p1 => ?_⟩
  split at p1
  · rename_i b e
    exact ⟨b, RV.tru (C := cx X) y1.ok r1 e, q b _ _ y1 p1⟩
  · exact p1.elim
noncomputable def pTst (pe : PX) : PTx := fun δ P P2 => pe δ (fun x => match x with | .bl b => P b | _ => False) P2
theorem R.blR {C : Ctx} {G : Gp} {v : V} {b : Bool} (r : R C G v (.bl b)) : v = .bl b := by cases r; rfl
theorem lt_of {a : Expr} {te : TE} {pe : PX} (hp : PT X a (tTest te)) (ha : ∀ {δ : Dl} {σ : St} {G : Gp} {H H0 : Hp} {Q : VK} {P : D → Prop} {P2 : Exn → Prop}, Ok G H → SRel (cx X) H0 G H σ δ → EOk (cx X) G H (E σ) P2 → pe δ P P2 →
    (∀ v d G' H', Ext G H G' H' → R (cx X) G' v d → P d → Q v H') → te σ H Q) : LT X E a (tTest te) (pTst pe) := by
  refine ⟨hp, fun k s x p q => ha k s x p fun v d G1 H1 y1 r1 p1 => ?_⟩
  split at p1
  · obtain rfl := r1.blR
    exact ⟨_, rfl, q _ _ _ y1 p1⟩
  · exact p1.elim
theorem lt_cmp {op : CmpOp} {r : R2} {f : POp} {a b : Expr} {ta tb : TE} {pa pb : PX} {pos : Pos} (ho : OpR X (compareOp op) r) (ol : OL X r f) (ha : LV X E a ta pa) (hb : LV X E b tb pb) (hm : behindInMarks op b = false) :
    LT X E (.Compare a [op] [b] pos) (tTest (tOp r ta tb)) (pTst (pOp f pa pb)) := lt_of (pt_cmpR ho ha.py hb.py hm) (op_le ol ha hb)
noncomputable def pChain (f f' : POp) (pa pb pc : PX) : PX := fun δ P P2 => pa δ (fun x => pb δ (fun y => f x y fun z => match z with
  | .bl k => if k = true then pc δ (fun w => f' y w P) P2 else P (.bl false)
  | _ => False) P2) P2
theorem chain_le {r r' : R2} {f f' : POp} {a b c : Expr} {ta tb tc : TE} {pa pb pc : PX} (ol : OL X r f) (ol' : OL X r' f') (ha : LV X E a ta pa) (hb : LV X E b tb pb) (hc : LV X E c tc pc) {δ : Dl} {σ : St} {G : Gp} {H H0 : Hp} {Q : VK} {P : D → Prop} {P2 : Exn → Prop}
    (k : Ok G H) (s : SRel (cx X) H0 G H σ δ) (x : EOk (cx X) G H (E σ) P2) (p : pChain f f' pa pb pc δ P P2) (q : ∀ v d G' H', Ext G H G' H' → R (cx X) G' v d → P d → Q v H') : tChain r r' ta tb tc σ H Q := by
  refine ha.le k s x p fun v d G1 H1 y1 r1 p1 => ?_
  refine hb.le y1.ok (s.ext y1) (x.ext y1) p1 fun u d2 G2 H2 y2 r2 p2 => ?_
  refine ol.le y2.ok (r1.ext y2) r2 p2 fun w d3 G3 H3 y3 r3 p3 => ?_
  have y13 := (y1.trans y2).trans y3
  split at p3
  · obtain rfl := r3.blR
    refine ⟨_, rfl, ?_⟩
    split at p3
    · rename_i e
      rw [if_pos e]
      refine hc.le y13.ok (s.ext y13) (x.ext y13) p3 fun u4 d4 G4 H4 y4 r4 p4 => ?_
      exact ol'.le y4.ok ((r2.ext y3).ext y4) r4 p4 fun u5 d5 G5 H5 y5 r5 p5 => q u5 d5 G5 H5 ((y13.trans y4).trans y5) r5 p5
    · rename_i e
      rw [if_neg e]
      exact q _ _ _ _ y13 (.bl _) p3
  · exact p3.elim
theorem lt_chain {op op' : CmpOp} {r r' : R2} {f f' : POp} {a b c : Expr} {ta tb tc : TE} {pa pb pc : PX} {pos : Pos} (ho : OpR X (compareOp op) r) (ho' : OpR X (compareOp op') r') (ol : OL X r f) (ol' : OL X r' f') (ha : LV X E a ta pa) (hb : LV X E b tb pb) (hc : LV X E c tc pc)
    (hm : lastMarks [op, op'] [b, c] = false := by with_unfolding_all rfl) : LT X E (.Compare a [op, op'] [b, c] pos) (tTest (tChain r r' ta tb tc)) (pTst (pChain f f' pa pb pc)) := lt_of (pt_chain ho ho' ha.py hb.py hc.py hm) (chain_le ol ol' ha hb hc)
structure LWt (X : Cx) (E : St → XK) (e : Expr) (tt : TT) (pt : PTx) : Prop where
  py : PW X e tt
  le : ∀ {δ : Dl} {σ : St} {G : Gp} {H H0 : Hp} {Q : Bool → Hp → Prop} {P : Bool → Prop} {P2 : Exn → Prop}, Ok G H → SRel (cx X) H0 G H σ δ → EOk (cx X) G H (E σ) P2 → pt δ P P2 →
    (∀ b G' H', Ext G H G' H' → P b → Q b H') → tt σ H Q
theorem LWt.t {e : Expr} {tt : TT} {pt : PTx} (h : LWt X E e tt pt) : LT X E e tt pt := ⟨h.py.pt, h.le⟩
noncomputable def pAndT (a b : PTx) : PTx := fun δ P P2 => a δ (fun c => if c = true then b δ P P2 else P false) P2
noncomputable def pOrT (a b : PTx) : PTx := fun δ P P2 => a δ (fun c => if c = true then P true else b δ P P2) P2
noncomputable def pNotT (a : PTx) : PTx := fun δ P P2 => a δ (fun c => P (!c)) P2
section
variable {a b : Expr} {rest : List Expr} {tA tB : TT} {pA pB : PTx} {pos : Pos}
theorem lw_and1 (ha : LT X E a tA pA) : LWt X E (.BoolOp .And [a] pos) tA pA := ⟨pw_and1 ha.py, ha.le⟩
theorem lw_or1 (ha : LT X E a tA pA) : LWt X E (.BoolOp .Or [a] pos) tA pA := ⟨pw_or1 ha.py, ha.le⟩
theorem lw_and (ha : LT X E a tA pA) (hb : LWt X E (.BoolOp .And (b :: rest) pos) tB pB) : LWt X E (.BoolOp .And (a :: b :: rest) pos) (tAnd tA tB) (pAndT pA pB) :=
  ⟨pw_and ha.py hb.py, fun k s x p q => ha.le k s x p fun c G1 H1 y1 p1 => by
    split at p1
    · rename_i e
      rw [if_pos e]
      exact hb.le y1.ok (s.ext y1) (x.ext y1) p1 fun c2 G2 H2 y2 p2 => q _ _ _ (y1.trans y2) p2
    · rename_i e
      rw [if_neg e]
      exact q _ _ _ y1 p1⟩
theorem lw_or (ha : LT X E a tA pA) (hb : LWt X E (.BoolOp .Or (b :: rest) pos) tB pB) : LWt X E (.BoolOp .Or (a :: b :: rest) pos) (tOr tA tB) (pOrT pA pB) :=
  ⟨pw_or ha.py hb.py, fun k s x p q => ha.le k s x p fun c G1 H1 y1 p1 => by
    split at p1
    · rename_i e
      rw [if_pos e]
      exact q _ _ _ y1 p1
    · rename_i e
      rw [if_neg e]
      exact hb.le y1.ok (s.ext y1) (x.ext y1) p1 fun c2 G2 H2 y2 p2 => q _ _ _ (y1.trans y2) p2⟩
theorem lt_not (ha : LT X E a tA pA) : LT X E (.UnaryOp .Not a pos) (tNot tA) (pNotT pA) := ⟨pt_not ha.py, fun k s x p q => ha.le k s x p fun c G1 H1 y1 p1 => q _ _ _ y1 p1⟩
end
noncomputable def pOrV (pa pb : PX) : PX := fun δ P P2 => pa δ (fun x => match truD x with | some k => if k = true then P x else pb δ P P2 | none => False) P2
noncomputable def pAndV (pa pb : PX) : PX := fun δ P P2 => pa δ (fun x => match truD x with | some k => if k = true then pb δ P P2 else P x | none => False) P2
noncomputable def pNotV (pa : PX) : PX := fun δ P P2 => pa δ (fun x => match truD x with | some k => P (.bl (!k)) | none => False) P2
section
variable {a b : Expr} {rest : List Expr} {ta tb : TE} {pa pb : PX} {pos : Pos} {op : BoolOp}
theorem lx_one (ha : LX X E a ta pa) : LX X E (.BoolOp op [a] pos) ta pa := ⟨pe_one ha.py, ha.le⟩
theorem lx_and (ha : LX X E a ta pa) (hb : LX X E (.BoolOp .And (b :: rest) pos) tb pb) : LX X E (.BoolOp .And (a :: b :: rest) pos) (tAndT X.K ta tb) (pAndV pa pb) :=
  ⟨pe_andT ha.py hb.py, fun k s x p q => ha.le k s x p fun v d G1 H1 y1 r1 p1 => by
    split at p1
    · rename_i c e
      refine ⟨c, RV.tru (C := cx X) y1.ok (.inl r1) e, ?_⟩
      split at p1
      · rename_i e2
        rw [if_pos e2]
        exact hb.le y1.ok (s.ext y1) (x.ext y1) p1 fun v2 d2 G2 H2 y2 r2 p2 => q _ _ _ _ (y1.trans y2) r2 p2
      · rename_i e2
        rw [if_neg e2]
        exact q _ _ _ _ y1 r1 p1
    · exact p1.elim⟩
theorem lx_not (ha : LV X E a ta pa) : LX X E (.UnaryOp .Not a pos) (tNotT X.K ta) (pNotV pa) :=
  ⟨pe_notT ha.py, fun k s x p q => ha.le k s x p fun v d G1 H1 y1 r1 p1 => by
    split at p1
    · rename_i c e
      exact ⟨c, RV.tru (C := cx X) y1.ok r1 e, q _ _ _ _ y1 (.bl _) p1⟩
    · exact p1.elim⟩
end
noncomputable def pIfE (pt : PTx) (pa pb : PX) : PX := fun δ P P2 => pt δ (fun c => if c = true then pa δ P P2 else pb δ P P2) P2
theorem lx_ifE {c a b : Expr} {tA : TT} {ta tb : TE} {pt : PTx} {pa pb : PX} {pos : Pos} (hc : LT X E c tA pt) (ha : LX X E a ta pa) (hb : LX X E b tb pb) : LX X E (.IfExp c a b pos) (tIf tA ta tb) (pIfE pt pa pb) :=
  ⟨pe_ifExp hc.py ha.py hb.py, fun k s x p q => hc.le k s x p fun c G1 H1 y1 p1 => by
    split at p1
    · rename_i e
      rw [if_pos e]
      exact ha.le y1.ok (s.ext y1) (x.ext y1) p1 fun v2 d2 G2 H2 y2 r2 p2 => q _ _ _ _ (y1.trans y2) r2 p2
    · rename_i e
      rw [if_neg e]
      exact hb.le y1.ok (s.ext y1) (x.ext y1) p1 fun v2 d2 G2 H2 y2 r2 p2 => q _ _ _ _ (y1.trans y2) r2 p2⟩
noncomputable def pTup (pa : PAx) : PX := fun δ P P2 => pa δ (fun ds => ds.length ≤ szl ∧ P (.tup ds)) P2
noncomputable def pLst (pa : PAx) : PX := fun δ P P2 => pa δ (fun ds => ds.length ≤ szl ∧ P (.lst ds)) P2
theorem lx_tup {es : List Expr} {ta : TA} {pa : PAx} {x1 : Nat} {pos : Pos} (h : LA X E es ta pa) : LX X E (.Tuple es x1 pos) (tTupN ta) (pTup pa) :=
  ⟨pe_tupN h.py, fun k s x p q => h.le k s x p fun vs ds G1 H1 y1 r1 p1 => ⟨by rw [r1.length, sizeLine_eq]; exact p1.1, fun l o hl ho =>
    let ⟨x1, x2⟩ := Ext.newT (C := cx X) (o := o) y1.ok hl ho r1; q _ (.tup _) _ _ (y1.trans x1) x2 p1.2⟩⟩
theorem lo_lst {es : List Expr} {ta : TA} {pa : PAx} {pos : Pos} (h : LA X E es ta pa) : LO X E (.List es pos) (tLst ta) (pLst pa) :=
  ⟨pe_lst h.py, fun k s x p q => h.le k s x p fun vs ds G1 H1 y1 r1 p1 => ⟨by rw [r1.length, sizeLine_eq]; exact p1.1, fun l hl =>
    q l vs ds G1 _ (y1.trans (Ext.new y1.ok hl)) (y1.back hl) upd_same (y1.ok.none_of hl) r1 p1.2⟩⟩
noncomputable def fIx : POp := fun x y P => match y with
  | .int i => (match x with
    | .lst ds => (match atI ds i with | some d => P d | none => False)
    | .vw ds => (match atI ds i with | some d => P d | none => False)
    | .tup ds => (match atI ds i with | some d => P d | none => False)
    | .str z => z.length ≤ szl ∧ (match atI z.cps.toList i with | some c => P (.str ⟨#[c]⟩) | none => False)
    | .pool => i = 0 ∧ ∀ s : Int, 0 ≤ s → P (.int s)
    | .pin _ ns => (match atI (ns.map D.int) i with | some d => P d | none => False)
    | _ => False)
  | _ => False
theorem RAll.atI {C : Ctx} {G : Gp} {xs : List V} {ds : List D} {i : Int} {d : D} (r : RAll C G xs ds) (e : atI ds i = some d) : ∃ v, L2.atI xs i = some v ∧ R C G v d := by
  unfold L2.atI at e ⊢
  rw [r.length]
  cases z : ixN ds.length i with
  | none => rw [z] at e; cases e
  | some j =>
    rw [z] at e
    obtain ⟨v, h1, h2⟩ := r.get e
    exact ⟨v, h1, h2⟩
theorem ol_ix : OL X (rIx X.K) fIx := by
  refine ⟨fun {G H x y dx dy Q P} k rx ry p q => ?_⟩
  unfold fIx at p
  split at p
  · have ey := ry.int
    split at p
    · split at p
      · rename_i d e
        obtain ⟨a, xs, e1, h1, r1⟩ := rx.lst k
        obtain ⟨v, h2, r2⟩ := r1.atI e
        exact .inl ⟨a, xs, _, v, e1, ey, SqL.of h1, h2, q _ _ _ _ (.refl k) r2 p⟩
      · exact p.elim
    · split at p
      · rename_i d e
        obtain ⟨a, xs, e1, h1, r1⟩ := rx.vw k
        obtain ⟨v, h2, r2⟩ := r1.atI e
        exact .inl ⟨a, xs, _, v, e1, ey, SqL.of h1, h2, q _ _ _ _ (.refl k) r2 p⟩
      · exact p.elim
    · split at p
      · rename_i d e
        obtain ⟨a, xs, e1, h1, r1⟩ := rx.tup k
        obtain ⟨v, h2, r2⟩ := r1.atI e
        exact .inr (.inl ⟨a, xs, _, v, e1, ey, h1, h2, q _ _ _ _ (.refl k) r2 p⟩)
      · exact p.elim
    · obtain ⟨pl, p⟩ := p
      split at p
      · rename_i c e
        exact .inr (.inr ⟨_, _, c, rx.str, ey, by rw [sizeLine_eq]; exact pl, e, q _ _ _ _ (.refl k) (.str _) p⟩)
      · exact p.elim
    · obtain ⟨rfl, p⟩ := p
      cases rx.scal (fun _ z => by cases z) with
      | pool g =>
        obtain ⟨⟨_, s0, s1, s2, s3, hh, h0, _⟩, _⟩ := k.at_ _ _ g
        exact .inl ⟨_, _, 0, .int s0, rfl, ey, SqL.of hh, rfl, q _ _ _ _ (.refl k) (.int _) (p s0 h0)⟩
    · split at p
      · rename_i d e
        cases rx.scal (fun _ z => by cases z) with
        | pin h =>
          obtain ⟨v, h2, r2⟩ := (RAll.ints (C := cx X) (G := G) _).atI e
          exact .inl ⟨_, _, _, v, rfl, ey, SqL.of (k.lk h), h2, q _ _ _ _ (.refl k) r2 p⟩
      · exact p.elim
    · exact p.elim
  · exact p.elim
theorem lx_ix {a b : Expr} {ta tb : TE} {pa pb : PX} {pos : Pos} (ha : LV X E a ta pa) (hb : LV X E b tb pb) (hs : PlainIx b) : LX X E (.Subscript a b pos) (tOp (rIx X.K) ta tb) (pOp fIx pa pb) :=
  ⟨pe_ix ix_seq ha.py hb.py hs, op_le ol_ix ha hb⟩
end
end Pu
set_option Elab.async false
set_option linter.all false
set_option maxRecDepth 100000
set_option maxHeartbeats 2000000
set_option autoImplicit false
namespace Pu
open PySem L2
section
variable {C : Ctx} {G G' G0 : Gp} {H H' H0 : Hp} {σ : St} {δ : Dl}
theorem SRel.own {i : Nat} {oa : Option Addr} {ds : List D} (s : SRel C H0 G H σ δ) (e : δ[i]? = some (some (.own oa ds))) : ∃ a xs, σ[i]? = some (some (.ref a)) ∧ (∀ b, oa = some b → b = a) ∧ H a = some (.lst xs) ∧ G a = none ∧ H0 a = none ∧ RAll C G xs ds := by
  obtain ⟨v, ev, r⟩ := s.at_ i _ e
  cases r with
  | own ha h g n r => exact ⟨_, _, ev, ha, h, g, n, r⟩
theorem SRel.fp_some {j : Nat} {s' : S} {v' : V} {a : Addr} (s : SRel C H0 G H σ δ) (h : δ[j]? = some (some s')) (ev : σ[j]? = some (some v')) (f : s'.fp v' a) (hn : H a = none) : False := by
  obtain ⟨v, e, q⟩ := s.at_ j s' h
  rw [ev] at e
  cases e
  cases q with
  | d _ => exact f
  | own _ hb _ _ _ =>
    have e2 : (V.ref _) = V.ref a := f
    injection e2 with e2
    rw [e2, hn] at hb; cases hb
  | slf _ hb _ _ _ _ =>
    have e2 : (V.ref _) = V.ref a := f
    injection e2 with e2
    rw [e2, hn] at hb; cases hb
  | exc _ => exact f
  | tree _ t2 _ =>
    obtain ⟨_, _, xs, hx⟩ := t2 a f
    rw [hn] at hx; cases hx
theorem SRel.write {i : Nat} {a : Addr} {oa : Option Addr} {ds ds' : List D} {xs' : List V} (s : SRel C H0 G H σ δ) (e : δ[i]? = some (some (.own oa ds))) (ea : σ[i]? = some (some (.ref a))) (r' : RAll C G xs' ds') :
    SRel C H0 G (upd H a (.lst xs')) σ (δ.set i (some (.own oa ds'))) := by
  obtain ⟨a', xs, ev, hoa, h, g, n, r⟩ := s.own e
  have eq : a' = a := by rw [ev] at ea; cases ea; rfl
  subst eq
  have hl : i < δ.length := (List.getElem?_eq_some_iff.mp e).1
  have key : ∀ (j : Nat) (u : S), (δ.set i (some (.own oa ds')))[j]? = some (some u) → (j = i ∧ u = .own oa ds') ∨ (j ≠ i ∧ δ[j]? = some (some u)) := fun j u h => by
    by_cases z : i = j
    · subst z
      rw [List.getElem?_set_self hl] at h
      exact .inl ⟨rfl, (Option.some.inj (Option.some.inj h)).symm⟩
    · rw [List.getElem?_set_ne z] at h
      exact .inr ⟨fun y => z y.symm, h⟩
  refine ⟨by rw [List.length_set, s.len], fun j u hu => ?_, fun j k u u' v1 v2 nn h1 h2 o1 o2 e1 e2 => ?_, fun j k P d u v2 b nn h1 h2 e2 pa f => ?_⟩
  · rcases key j u hu with ⟨rfl, rfl⟩ | ⟨z, hu⟩
    · exact ⟨_, ev, .own hoa upd_same g n r'⟩
    · obtain ⟨v, e2, q⟩ := s.at_ j u hu
      refine ⟨v, e2, ?_⟩
      cases q with
      | d q => exact .d q
      | @own b ob ys es hob hb gb nb rb =>
        have ne : b ≠ a' := fun y => s.apart j i _ _ _ _ z hu e rfl rfl e2 ev (by rw [y])
        exact .own hob (by rw [upd_ne ne]; exact hb) gb nb rb
      | @slf b A dx vs c es mb hb gb nb rb lb =>
        have ne : b ≠ a' := fun y => s.apart j i _ _ _ _ z hu e rfl rfl e2 ev (by rw [y])
        exact .slf mb (by rw [upd_ne ne]; exact hb) gb nb rb lb
      | exc q => exact .exc q
      | @tree _ _ TP TG t1 t2 q =>
        have np : ∀ b, TP b → b ≠ a' := fun b pb y => s.apT j i _ _ _ _ b z hu e ev pb (by rw [y]; rfl)
        refine .tree (fun b g eg => ?_) (fun b pb => ?_) q
        · rcases t1 b g eg with ⟨pb, xs2, rfl, hx2⟩ | t3
          · exact .inl ⟨pb, xs2, rfl, by rw [upd_ne (np b pb)]; exact hx2⟩
          · exact .inr t3
        · obtain ⟨n1, n2, xs2, n3⟩ := t2 b pb
          exact ⟨n1, n2, xs2, by rw [upd_ne (np b pb)]; exact n3⟩
  · have k1 : ∃ s1, δ[j]? = some (some s1) ∧ s1.isOwn = true := by
      rcases key j u h1 with ⟨rfl, _⟩ | ⟨_, h1⟩
      · exact ⟨_, e, rfl⟩
      · exact ⟨_, h1, o1⟩
    have k2 : ∃ s1, δ[k]? = some (some s1) ∧ s1.isOwn = true := by
      rcases key k u' h2 with ⟨rfl, _⟩ | ⟨_, h2⟩
      · exact ⟨_, e, rfl⟩
      · exact ⟨_, h2, o2⟩
    obtain ⟨s1, g1, w1⟩ := k1
    obtain ⟨s2, g2, w2⟩ := k2
    exact s.apart j k s1 s2 v1 v2 nn g1 g2 w1 w2 e1 e2
  · have kj : δ[j]? = some (some (.tree P d)) := by
      rcases key j _ h1 with ⟨_, z⟩ | ⟨_, h1⟩
      · cases z
      · exact h1
    rcases key k u h2 with ⟨rfl, rfl⟩ | ⟨_, h2⟩
    · exact s.apT j _ P d _ v2 b nn kj e e2 pa f
    · exact s.apT j k P d u v2 b nn kj h2 e2 pa f
theorem SRel.freeze {i : Nat} {oa : Option Addr} {ds : List D} (x : Ext G0 H0 G H) (s : SRel C H0 G H σ δ) (e : δ[i]? = some (some (.own oa ds))) :
    ∃ G', Ext G0 H0 G' H ∧ (∀ a g, G a = some g → G' a = some g) ∧ SRel C H0 G' H σ (δ.set i (some (.d (.lst ds)))) := by
  obtain ⟨a, xs, ev, hoa, h, g, n, r⟩ := s.own e
  refine ⟨updG G a (.fz (.lst xs)), x.share n h g, updG_keep g, ?_⟩
  have hl : i < δ.length := (List.getElem?_eq_some_iff.mp e).1
  have key : ∀ (j : Nat) (u : S), (δ.set i (some (.d (.lst ds))))[j]? = some (some u) → (j = i ∧ u = .d (.lst ds)) ∨ (j ≠ i ∧ δ[j]? = some (some u)) := fun j u h => by
    by_cases z : i = j
    · subst z
      rw [List.getElem?_set_self hl] at h
      exact .inl ⟨rfl, (Option.some.inj (Option.some.inj h)).symm⟩
    · rw [List.getElem?_set_ne z] at h
      exact .inr ⟨fun y => z y.symm, h⟩
  refine ⟨by rw [List.length_set, s.len], fun j u hu => ?_, fun j k u u' v1 v2 nn h1 h2 o1 o2 e1 e2 => ?_, fun j k P d u v2 b nn h1 h2 e2 pa f => ?_⟩
  · rcases key j u hu with ⟨rfl, rfl⟩ | ⟨z, hu⟩
    · exact ⟨_, ev, .d (.lst updG_same (r.mono (updG_keep g)))⟩
    · obtain ⟨v, e2, q⟩ := s.at_ j u hu
      refine ⟨v, e2, ?_⟩
      cases q with
      | d q => exact .d (q.mono (updG_keep g))
      | @own b ob ys es hob hb gb nb rb =>
        have ne : b ≠ a := fun y => s.apart j i _ _ _ _ z hu e rfl rfl e2 ev (by rw [y])
        exact .own hob hb (by rw [updG_ne ne]; exact gb) nb (rb.mono (updG_keep g))
      | @slf b A dx vs c es mb hb gb nb rb lb =>
        have ne : b ≠ a := fun y => s.apart j i _ _ _ _ z hu e rfl rfl e2 ev (by rw [y])
        exact .slf mb hb (by rw [updG_ne ne]; exact gb) nb (rb.mono (updG_keep g)) lb
      | exc q => exact .exc (q.ext (updG_keep g))
      | @tree _ _ TP TG t1 t2 q =>
        have np : ∀ b, TP b → b ≠ a := fun b pb y => s.apT j i _ _ _ _ b z hu e ev pb (by rw [y]; rfl)
        refine .tree (fun b u2 eg => ?_) (fun b pb => ?_) q
        · rcases t1 b u2 eg with t3 | ⟨t3, t4⟩
          · exact .inl t3
          · exact .inr ⟨updG_keep g b u2 t3, t4⟩
        · obtain ⟨n1, n2, n3⟩ := t2 b pb
          exact ⟨n1, by rw [updG_ne (np b pb)]; exact n2, n3⟩
  · rcases key j u h1 with ⟨_, eu⟩ | ⟨_, h1'⟩
    · rw [eu] at o1; cases o1
    · rcases key k u' h2 with ⟨_, eu⟩ | ⟨_, h2'⟩
      · rw [eu] at o2; cases o2
      · exact s.apart j k u u' v1 v2 nn h1' h2' o1 o2 e1 e2
  · have kj : δ[j]? = some (some (.tree P d)) := by
      rcases key j _ h1 with ⟨_, z⟩ | ⟨_, h1⟩
      · cases z
      · exact h1
    rcases key k u h2 with ⟨_, rfl⟩ | ⟨_, h2⟩
    · exact f.elim
    · exact s.apT j k P d u v2 b nn kj h2 e2 pa f
end

section
variable {X : Cx} {E : L2.St → XK}
noncomputable def pNext : PSx := fun P δ => P.nx δ
noncomputable def pSeq (a b : PSx) : PSx := fun P δ => a { P with nx := b P } δ
noncomputable def pBreak : PSx := fun P δ => P.bk δ
noncomputable def pCont : PSx := fun P δ => P.ct δ
theorem EndsR.seq {C : Ctx} {G0 : Gp} {H0 : Hp} {E : L2.St → XK} {Dn : Ends} {P : PEnds} {t : TS} {p : PSx} (e : EndsR C G0 H0 E Dn P) (h : ∀ {σ : St} {δ : Dl} {G : Gp} {H : Hp}, Stt C G0 H0 σ δ G H → p P δ → t Dn σ H) :
    EndsR C G0 H0 E { Dn with nx := t Dn } { P with nx := p P } := ⟨h, e.rt, e.bk, e.ct, e.ex⟩
theorem lss_nil : LSs X E [] tNext pNext := ⟨pss_nil, fun e t p => e.nx t p⟩
theorem lss_cons {st : Stmt} {rest : List Stmt} {t u : TS} {p q : PSx} (h1 : LS X E st t p) (h2 : LSs X E rest u q) : LSs X E (st :: rest) (tSeq t u) (pSeq p q) :=
  ⟨pss_cons h1.py h2.py, fun e t p => h1.le (e.seq fun t' p' => h2.le e t' p') t p⟩
theorem lss_one {st : Stmt} {t : TS} {p : PSx} (h1 : LS X E st t p) : LSs X E [st] t p := ⟨pss_one h1.py, h1.le⟩
noncomputable def pFreeze (i : Nat) (p : PSx) : PSx := fun P δ => match δ[i]? with
  | some (some (.own _ ds)) => p P (δ.set i (some (.d (.lst ds))))
  | _ => p P δ
theorem ls_freeze (i : Nat) {st : Stmt} {t : TS} {p : PSx} (h : LS X E st t p) : LS X E st t (pFreeze i p) := by
  refine ⟨h.py, fun {G0 H0 Dn P δ σ G H} e t q => ?_⟩
  unfold pFreeze at q
  split at q
  · rename_i oa ds ed
    obtain ⟨G', x, _, s⟩ := SRel.freeze t.ext t.sr ed
    exact h.le e ⟨x, s⟩ q
  · exact h.le e t q
noncomputable def pAsg (pe : PX) (i : Nat) : PSx := fun P δ => pe δ (fun d => P.nx (δ.set i (some (.d d)))) (P.ex δ)
noncomputable def pAsgO (pe : PX) (i : Nat) : PSx := fun P δ => pe δ (fun d => match d with | .lst ds => P.nx (δ.set i (some (.own none ds))) | _ => False) (P.ex δ)
theorem ls_set (i : Nat) {x : Str} {e : Expr} {te : TE} {pe : PX} {pos pos' : Pos} (hN : X.N.Nodup) (he : LX X E e te pe) (hi : X.N[i]? = some x := by rfl) (hx : Loc X.env.scope x := by first | exact Or.inl rfl | exact Or.inr rfl)
    (hs : swapsWith e (some (.Name x pos')) pos.line X.env = pure false := by rfl) (hf : X.fn x = true ∨ X.env.scope.names.lookup x = some .local := by first | exact .inl rfl | exact .inr rfl) :
    LS X E (.Assign [.Name x pos'] e pos) (tAsg te (gName i)) (pAsg pe i) :=
  ⟨by first | exact ps_set hN hi hx he.py hs hf | exact ps_set hN hi hx he.py hs, fun e t p => he.le t.ok t.sr (e.ex t) p fun v d G' H' y r q => e.nx ⟨t.ext.trans y, (t.sr.ext y).setD r⟩ q⟩
theorem SRel.setO {C : Ctx} {H0 H H' : Hp} {G G' G0 : Gp} {σ : St} {δ : Dl} {i : Nat} {p : Addr} {xs : List V} {ds : List D} (e0 : Ext G0 H0 G H) (s : SRel C H0 G H σ δ) (y : Ext G H G' H') (hn : H p = none) (hp : H' p = some (.lst xs)) (gp : G' p = none) (r : RAll C G' xs ds) :
    SRel C H0 G' H' (σ.set i (some (.ref p))) (δ.set i (some (.own none ds))) := by
  refine (s.ext y).set (.own (fun _ z => by cases z) hp gp (e0.back hn) r) (fun _ j s' h o ne z => ?_) (fun j s' v' a h ev' ne f1 f2 => ?_)
  · obtain ⟨v, ev, q⟩ := s.at_ j s' h
    rw [ev] at z
    cases z
    cases q with
    | d _ => cases o
    | own _ hb _ _ _ => rw [hn] at hb; cases hb
    | slf _ hb _ _ _ _ => rw [hn] at hb; cases hb
    | exc _ => cases o
    | tree _ _ _ => cases o
  · have ea : p = a := by injection f2
    subst ea
    exact s.fp_some h ev' f1 hn
theorem ls_setO (i : Nat) {x : Str} {e : Expr} {te : TE} {pe : PX} {pos pos' : Pos} (hN : X.N.Nodup) (he : LO X E e te pe) (hi : X.N[i]? = some x := by rfl) (hx : Loc X.env.scope x := by first | exact Or.inl rfl | exact Or.inr rfl)
    (hs : swapsWith e (some (.Name x pos')) pos.line X.env = pure false := by rfl) (hf : X.fn x = true ∨ X.env.scope.names.lookup x = some .local := by first | exact .inl rfl | exact .inr rfl) :
    LS X E (.Assign [.Name x pos'] e pos) (tAsg te (gName i)) (pAsgO pe i) :=
  ⟨by first | exact ps_set hN hi hx he.py hs hf | exact ps_set hN hi hx he.py hs, fun e t p => he.le t.ok t.sr (e.ex t) p fun l xs ds G' H' y hn hp gp r q => e.nx ⟨t.ext.trans y, SRel.setO t.ext t.sr y hn hp gp r⟩ q⟩
noncomputable def pDrop (pe : PX) : PSx := fun P δ => pe δ (fun _ => P.nx δ) (P.ex δ)
theorem ls_expr {e : Expr} {te : TE} {pe : PX} {pos : Pos} (he : LV X E e te pe) (hs : swapsWith e none pos.line X.env = pure false := by rfl) : LS X E (.Expr e pos) (tDrop te) (pDrop pe) :=
  ⟨ps_expr he.py hs, fun e t p => he.le t.ok t.sr (e.ex t) p fun v d G' H' y r q => e.nx (t.step y) q⟩
noncomputable def pRet (pe : PX) : PSx := fun P δ => pe δ (P.rt δ) (P.ex δ)
theorem ls_ret {e : Expr} {te : TE} {pe : PX} {pos : Pos} (he : LX X E e te pe) : LS X E (.Return (some e) pos) (tRet te) (pRet pe) :=
  ⟨ps_ret he.py, fun e t p => he.le t.ok t.sr (e.ex t) p fun v d G' H' y r q => e.rt (t.step y) r q⟩
noncomputable def pRetN : PSx := fun P δ => P.rt δ .non
noncomputable def pIf (c : PTx) (a b : PSx) : PSx := fun P δ => c δ (fun k => if k = true then a P δ else b P δ) (P.ex δ)
theorem ls_if {c : Expr} {a b : List Stmt} {tc : TT} {t u : TS} {pc : PTx} {p q : PSx} {pos : Pos} (hc : LT X E c tc pc) (ha : LSs X E a t p) (hb : LSs X E b u q) : LS X E (.If c a b pos) (tIfS tc t u) (pIf pc p q) :=
  ⟨ps_if hc.py ha.py hb.py, fun e t p => hc.le t.ok t.sr (e.ex t) p fun k G' H' y q => by
    split at q
    · rename_i z
      rw [if_pos z]
      exact ha.le e (t.step y) q
    · rename_i z
      rw [if_neg z]
      exact hb.le e (t.step y) q⟩
noncomputable def pgName (i : Nat) : D → Dl → (Dl → Prop) → Prop := fun d δ K => K (δ.set i (some (.d d)))
theorem lg_name (i : Nat) {x : Str} {pos : Pos} (hN : X.N.Nodup) (hi : X.N[i]? = some x := by rfl) (hx : Loc X.env.scope x := by first | exact Or.inl rfl | exact Or.inr rfl) (hf : X.fn x = true ∨ X.env.scope.names.lookup x = some .local := by first | exact .inl rfl | exact .inr rfl) :
    LG X (.Name x pos) (gName i) (pgName i) [i] := ⟨pg_name hN hi hx hf, fun k s r p q => q _ _ (s.setD r) .set p⟩
structure LGs (X : Cx) (ts : List Expr) (g : TGs) (pg : List D → Dl → (Dl → Prop) → Prop) (js : List Nat) : Prop where
  py : PGs X ts g
  le : ∀ {δ : Dl} {σ : St} {G : Gp} {H H0 : Hp} {vs : List V} {ds : List D} {P : Dl → Prop} {Q : St → Hp → Prop}, Ok G H → SRel (cx X) H0 G H σ δ → RAll (cx X) G vs ds → pg ds δ P →
    (∀ σ' δ', SRel (cx X) H0 G H σ' δ' → Out js σ σ' → P δ' → Q σ' H) → g vs σ H Q
noncomputable def pgNil : List D → Dl → (Dl → Prop) → Prop := fun ds δ K => match ds with | [] => K δ | _ => False
noncomputable def pgCons (t : D → Dl → (Dl → Prop) → Prop) (u : List D → Dl → (Dl → Prop) → Prop) : List D → Dl → (Dl → Prop) → Prop := fun ds δ K => match ds with | d :: r => t d δ (fun δ' => u r δ' K) | [] => False
theorem lgs_nil : LGs X [] gNil pgNil [] := ⟨pgs_nil, fun k s r p q => by
  cases r with
  | nil => exact ⟨rfl, q _ _ s .refl p⟩
  | cons _ _ => exact p.elim⟩
theorem lgs_cons {e : Expr} {es : List Expr} {t : TG} {u : TGs} {pt : D → Dl → (Dl → Prop) → Prop} {pu : List D → Dl → (Dl → Prop) → Prop} {js ks : List Nat} (h1 : LG X e t pt js) (h2 : LGs X es u pu ks)
    (hs : (assignEach (e :: es) X.env).map (·.2) = assign e X.env :: (assignEach es X.env).map (·.2) := by rfl) : LGs X (e :: es) (gCons t u) (pgCons pt pu) (js ++ ks) := ⟨pgs_cons h1.py h2.py hs, fun k s r p q => by
  cases r with
  | nil => exact p.elim
  | cons r1 r2 => exact ⟨_, _, rfl, h1.le k s r1 p fun σ' δ' s' o1 p' => h2.le k s' r2 p' fun σ2 δ2 s2 o2 p2 => q σ2 δ2 s2 (o1.trans o2) p2⟩⟩
noncomputable def pgSeq (n : Nat) (u : List D → Dl → (Dl → Prop) → Prop) : D → Dl → (Dl → Prop) → Prop := fun d δ K => match itemsD d with | some ds => ds.length = n ∧ u ds δ K | none => False
noncomputable def gSeq (K : PySem.W.Frag) (n : Nat) (t : TGs) : TG := fun v σ H Q => gTup K n t v σ H Q ∨ gUnl K n t v σ H Q
theorem lg_seq {es : List Expr} {j : Nat} {t : TGs} {pu : List D → Dl → (Dl → Prop) → Prop} {n : Nat} {pos : Pos} {js : List Nat} (hc : X.calm = true) (h : LGs X es t pu js)
    (hn : (assignEach es X.env).length = n := by rfl) (hst : (assignEach es X.env).findIdx? (·.1) = none := by rfl) : LG X (.Tuple es j pos) (gSeq X.K n t) (pgSeq n pu) js := by
  refine ⟨⟨fun pins s σ H v u Q I r hw => ?_⟩, fun {δ σ G H H0 v d P Q} k s r p q => ?_⟩
  · rcases hw with hw | hw
    · exact (pg_tup hc h.py hn hst).run pins s σ H v u Q I r hw
    · exact (pg_unl hc h.py hn hst).run pins s σ H v u Q I r hw
  · unfold pgSeq at p
    split at p
    · rename_i ds e
      obtain ⟨a, xs, e1, h1, r1⟩ := RV.items (C := cx X) k (.inl r) e
      have fin : t xs σ H Q := h.le k s r1 p.2 q
      rcases h1 with h1 | h1
      · exact .inr ⟨a, xs, e1, h1, by rw [r1.length]; exact p.1, fin⟩
      · exact .inl ⟨a, xs, e1, h1, by rw [r1.length]; exact p.1, fin⟩
    · exact p.elim
noncomputable def pAsgG (pe : PX) (pg : D → Dl → (Dl → Prop) → Prop) : PSx := fun P δ => pe δ (fun d => pg d δ P.nx) (P.ex δ)
theorem ls_asgG {tg e : Expr} {te : TE} {g : TG} {pe : PX} {pg : D → Dl → (Dl → Prop) → Prop} {pos : Pos} {js : List Nat} (he : LX X E e te pe) (hg : LG X tg g pg js) (hs : swapsWithSole [tg] e pos.line X.env = pure false := by rfl) (hw : swappedStores [tg] e X.env = pure none := by rfl)
    (h1 : (assignEach [tg] X.env).map (·.2) = [assign tg X.env] := by rfl) : LS X E (.Assign [tg] e pos) (tAsg te g) (pAsgG pe pg) :=
  ⟨ps_asg he.py hg.py hs hw h1, fun e t p => he.le t.ok t.sr (e.ex t) p fun v d G' H' y r q => hg.le y.ok (t.sr.ext y) r q fun σ' δ' s' _ p' => e.nx ⟨t.ext.trans y, s'⟩ p'⟩
end
end Pu
set_option Elab.async false
set_option linter.all false
set_option maxRecDepth 100000
set_option maxHeartbeats 2000000
set_option autoImplicit false
namespace Pu
open PySem L2 PyProof.Rows

noncomputable def ItE_l (K : PySem.W.Frag) (k0 : Int) (a : Addr) : It :=
  ⟨fun i H => ∃ (xs : List V) (x : V), SqL K H a xs ∧ xs[i]? = some x, fun i H v H' => ∃ T x o, v = .ref T ∧ H T = none ∧ o.dict = none ∧ H' = upd H T (.frz o (.tup [.int (k0 + (i : Int)), x])) ∧ ∀ xs, SqL K H a xs → xs[i]? = some x, fun i H => ∃ xs : List V, SqL K H a xs ∧ xs.length = i⟩
theorem turn_enum_l {P : Program} {w : World} {K : PySem.W.Frag} {elts : List Expr} {kk : Nat} {tpos : Pos} (k0 : Int) (a e it : Addr) :
    Turn P w K (.Tuple elts kk tpos) (ItE_l K k0 a) [e, it] e (fun i h => (∃ old, IsEnum h e it (k0 + (i : Int)) old) ∧ h.IsListIter it a i ∧ e ≠ it) where
  mem := by simp
  obj := fun i h st b hb => by
    obtain ⟨⟨old, he⟩, ⟨o, ho, hc, hd⟩, _⟩ := st
    have e' : b = e ∨ b = it := by simpa using hb
    rcases e' with z | z
    · rw [z]; exact ⟨_, he, fun v q => nomatch q⟩
    · rw [z]; exact ⟨o, ho, fun v q => by rw [hd] at q; cases q⟩
  keep := fun i h h' st k => let ⟨⟨old, he⟩, hi, hne⟩ := st; ⟨⟨old, k e (by simp) _ he⟩, hi.at fun o q => k it (by simp) o q, hne⟩
  item := by
    intro X hP hw hK hc i pins s σ H E I hf st hg
    subst hP hw hK
    obtain ⟨⟨old, he⟩, hit, hne⟩ := st
    obtain ⟨xs, x, hq, hx⟩ := hg
    obtain ⟨its, rv, p, hz⟩ := I.list hq
    obtain ⟨u, hu, ru⟩ := rv.get hx
    have hel : e < s.heap.objs.size := Heap.lt_size he
    have hil : it < s.heap.objs.size := by obtain ⟨_, q, _⟩ := hit; exact Heap.lt_size q
    have pl : s.heap.IsList a its.toArray := p.isList
    have ha_it : a ≠ it := fun z => by
      obtain ⟨o1, q1, c1, _⟩ := hit
      obtain ⟨o2, q2, c2⟩ := pl.typeIs (s := s)
      rw [z, q1] at q2; cases q2; rw [c1] at c2; revert c2; decide +kernel
    have he_a : e ≠ a := fun z => by
      obtain ⟨o2, q2, c2⟩ := pl.typeIs (s := s)
      rw [← z, he] at q2; cases q2; exact absurd c2 (by show ¬ (Value.type "enumerate" = Value.type "list"); decide +kernel)
    have hlt : i < its.toArray.size := by
      have := (List.getElem?_eq_some_iff.mp hx).1
      rw [List.size_toArray, ← rv.length]; exact this
    refine wpAny_pyNext_enum_itemC (Draws.list (A := X.A.in1) (by exact (I.ok.hd hc)) it a ha_it its.toArray) he ⟨hit, pl⟩ hlt hne (by simp [hne, he_a]) fun u' h' tk hu' ho st' hT hsz hk => ?_
    have eu : u' = u := by
      have h1 : its[i]? = some u' := by simpa using hu'
      rw [hu] at h1; exact (Option.some.inj h1).symm
    subst eu
    refine ⟨_, rfl, wpAny_letOwnedTupleGo_enum (s := { s with heap := h', toks := tk + 1 }) ho fun h'' he' sb => ?_⟩
    have hT2 : h''.get? s.heap.objs.size = some { cls := .type "tuple", data := .seq #[.int (k0 + (i : Int)) tk, u'] } := (sb.2 _ (Nat.ne_of_gt hel)).trans hT
    have new : ObjOk X.prog X.w (upd H s.heap.objs.size (.frz { cls := .type "tuple", data := .seq #[.int (k0 + (i : Int)) tk, u'] } (.tup [.int (k0 + (i : Int)), x]))) h'' s.heap.objs.size (.frz { cls := .type "tuple", data := .seq #[.int (k0 + (i : Int)) tk, u'] } (.tup [.int (k0 + (i : Int)), x])) :=
      ⟨hT2, by show 2 ≤ sizeLine; decide, [.int (k0 + (i : Int)) tk, u'], .cons ⟨_, rfl⟩ (.cons ru .nil), ⟨_, hT2, rfl, _, rfl⟩⟩
    have I1 : Inv X pins σ (upd H s.heap.objs.size (.frz { cls := .type "tuple", data := .seq #[.int (k0 + (i : Int)) tk, u'] } (.tup [.int (k0 + (i : Int)), x]))) { s with heap := h'', toks := tk + 1 } :=
      I.turnedNew (ch := [e, it]) (fun b ob hb q => (sb.2 b (fun z => hb (by simp [z]))).trans (hk b ob (fun z => hb (by simp [z])) (fun z => hb (by simp [z])) q)) hf (Nat.le_refl _) new
    refine ⟨.ref s.heap.objs.size, _, I1, rfl, ⟨_, x, _, rfl, I.hok.fresh (Nat.le_refl _), rfl, rfl, fun ys hy => by rw [I.list_inj hy hq]; exact hx⟩, ⟨⟨u', ?_⟩, st'.1.at fun o q => (sb.2 it (Ne.symm hne)).trans q, hne⟩, fun b hb => ?_⟩
    · have e1 : k0 + ((i + 1 : Nat) : Int) = k0 + (i : Int) + 1 := by omega
      rw [e1]; exact he'
    · have hb' : b < s.heap.objs.size := by
        have e' : b = e ∨ b = it := by simpa using hb
        rcases e' with z | z
        · rw [z]; exact hel
        · rw [z]; exact hil
      rw [upd_ne (Nat.ne_of_lt hb')]
      exact (hf b hb).1
  done := by
    intro X hP hw hK hc i pins s σ H E I hf st hg
    subst hP hw hK
    obtain ⟨⟨old, he⟩, hit, hne⟩ := st
    obtain ⟨xs, hq, hx⟩ := hg
    obtain ⟨its, rv, p, hz⟩ := I.list hq
    obtain ⟨f0, f1, f2, f3, f4, f5⟩ := hf it (by simp)
    have pl : s.heap.IsList a its.toArray := p.isList
    have ha_it : a ≠ it := fun z => by
      obtain ⟨o1, q1, c1, _⟩ := hit
      obtain ⟨o2, q2, c2⟩ := pl.typeIs (s := s)
      rw [z, q1] at q2; cases q2; rw [c1] at c2; revert c2; decide +kernel
    have hl : its.toArray.size = i := by rw [List.size_toArray, ← rv.length]; exact hx
    refine wpAny_pyNext_enum_endD (Draws.list (A := X.A.in1) (by exact (I.ok.hd hc)) it a ha_it its.toArray) he ⟨by rw [hl]; exact hit, pl⟩ fun h' eb => ⟨rfl, I.turned (t' := s.toks) (fun b o hb q => eb b o hb q) f0 f1 f3 f4 f5⟩
  self := fun A i s Q E st h => let ⟨⟨_, he⟩, _⟩ := st; wpAny_pyIter_enum he h

noncomputable def ItE_t (K : PySem.W.Frag) (k0 : Int) (a : Addr) : It :=
  ⟨fun i H => ∃ (xs : List V) (x : V), SqT K H a xs ∧ xs[i]? = some x, fun i H v H' => ∃ T x o, v = .ref T ∧ H T = none ∧ o.dict = none ∧ H' = upd H T (.frz o (.tup [.int (k0 + (i : Int)), x])) ∧ ∀ xs, SqT K H a xs → xs[i]? = some x, fun i H => ∃ xs : List V, SqT K H a xs ∧ xs.length = i⟩
theorem turn_enum_t {P : Program} {w : World} {K : PySem.W.Frag} {elts : List Expr} {kk : Nat} {tpos : Pos} (k0 : Int) (a e it : Addr) :
    Turn P w K (.Tuple elts kk tpos) (ItE_t K k0 a) [e, it] e (fun i h => (∃ old, IsEnum h e it (k0 + (i : Int)) old) ∧ h.IsTupleIter it a i ∧ e ≠ it) where
  mem := by simp
  obj := fun i h st b hb => by
    obtain ⟨⟨old, he⟩, ⟨o, ho, hc, hd⟩, _⟩ := st
    have e' : b = e ∨ b = it := by simpa using hb
    rcases e' with z | z
    · rw [z]; exact ⟨_, he, fun v q => nomatch q⟩
    · rw [z]; exact ⟨o, ho, fun v q => by rw [hd] at q; cases q⟩
  keep := fun i h h' st k => let ⟨⟨old, he⟩, hi, hne⟩ := st; ⟨⟨old, k e (by simp) _ he⟩, hi.at fun o q => k it (by simp) o q, hne⟩
  item := by
    intro X hP hw hK hc i pins s σ H E I hf st hg
    subst hP hw hK
    obtain ⟨⟨old, he⟩, hit, hne⟩ := st
    obtain ⟨xs, x, hq, hx⟩ := hg
    obtain ⟨its, rv, p, hz⟩ := I.tuple hq
    obtain ⟨u, hu, ru⟩ := rv.get hx
    have hel : e < s.heap.objs.size := Heap.lt_size he
    have hil : it < s.heap.objs.size := by obtain ⟨_, q, _⟩ := hit; exact Heap.lt_size q
    have pl : s.heap.IsTuple a its.toArray := (show s.heap.IsTuple a its.toArray from p)
    have ha_it : a ≠ it := fun z => by
      obtain ⟨o1, q1, c1, _⟩ := hit
      obtain ⟨o2, q2, c2⟩ := pl.typeIs (s := s)
      rw [z, q1] at q2; cases q2; rw [c1] at c2; revert c2; decide +kernel
    have he_a : e ≠ a := fun z => by
      obtain ⟨o2, q2, c2⟩ := pl.typeIs (s := s)
      rw [← z, he] at q2; cases q2; exact absurd c2 (by show ¬ (Value.type "enumerate" = Value.type "tuple"); decide +kernel)
    have hlt : i < its.toArray.size := by
      have := (List.getElem?_eq_some_iff.mp hx).1
      rw [List.size_toArray, ← rv.length]; exact this
    refine wpAny_pyNext_enum_itemC (Draws.tuple (A := X.A.in1) (by exact (I.ok.hd hc)) it a ha_it its.toArray) he ⟨hit, pl⟩ hlt hne (by simp [hne, he_a]) fun u' h' tk hu' ho st' hT hsz hk => ?_
    have eu : u' = u := by
      have h1 : its[i]? = some u' := by simpa using hu'
      rw [hu] at h1; exact (Option.some.inj h1).symm
    subst eu
    refine ⟨_, rfl, wpAny_letOwnedTupleGo_enum (s := { s with heap := h', toks := tk + 1 }) ho fun h'' he' sb => ?_⟩
    have hT2 : h''.get? s.heap.objs.size = some { cls := .type "tuple", data := .seq #[.int (k0 + (i : Int)) tk, u'] } := (sb.2 _ (Nat.ne_of_gt hel)).trans hT
    have new : ObjOk X.prog X.w (upd H s.heap.objs.size (.frz { cls := .type "tuple", data := .seq #[.int (k0 + (i : Int)) tk, u'] } (.tup [.int (k0 + (i : Int)), x]))) h'' s.heap.objs.size (.frz { cls := .type "tuple", data := .seq #[.int (k0 + (i : Int)) tk, u'] } (.tup [.int (k0 + (i : Int)), x])) :=
      ⟨hT2, by show 2 ≤ sizeLine; decide, [.int (k0 + (i : Int)) tk, u'], .cons ⟨_, rfl⟩ (.cons ru .nil), ⟨_, hT2, rfl, _, rfl⟩⟩
    have I1 : Inv X pins σ (upd H s.heap.objs.size (.frz { cls := .type "tuple", data := .seq #[.int (k0 + (i : Int)) tk, u'] } (.tup [.int (k0 + (i : Int)), x]))) { s with heap := h'', toks := tk + 1 } :=
      I.turnedNew (ch := [e, it]) (fun b ob hb q => (sb.2 b (fun z => hb (by simp [z]))).trans (hk b ob (fun z => hb (by simp [z])) (fun z => hb (by simp [z])) q)) hf (Nat.le_refl _) new
    refine ⟨.ref s.heap.objs.size, _, I1, rfl, ⟨_, x, _, rfl, I.hok.fresh (Nat.le_refl _), rfl, rfl, fun ys hy => by rw [I.tuple_inj hy hq]; exact hx⟩, ⟨⟨u', ?_⟩, st'.1.at fun o q => (sb.2 it (Ne.symm hne)).trans q, hne⟩, fun b hb => ?_⟩
    · have e1 : k0 + ((i + 1 : Nat) : Int) = k0 + (i : Int) + 1 := by omega
      rw [e1]; exact he'
    · have hb' : b < s.heap.objs.size := by
        have e' : b = e ∨ b = it := by simpa using hb
        rcases e' with z | z
        · rw [z]; exact hel
        · rw [z]; exact hil
      rw [upd_ne (Nat.ne_of_lt hb')]
      exact (hf b hb).1
  done := by
    intro X hP hw hK hc i pins s σ H E I hf st hg
    subst hP hw hK
    obtain ⟨⟨old, he⟩, hit, hne⟩ := st
    obtain ⟨xs, hq, hx⟩ := hg
    obtain ⟨its, rv, p, hz⟩ := I.tuple hq
    obtain ⟨f0, f1, f2, f3, f4, f5⟩ := hf it (by simp)
    have pl : s.heap.IsTuple a its.toArray := (show s.heap.IsTuple a its.toArray from p)
    have ha_it : a ≠ it := fun z => by
      obtain ⟨o1, q1, c1, _⟩ := hit
      obtain ⟨o2, q2, c2⟩ := pl.typeIs (s := s)
      rw [z, q1] at q2; cases q2; rw [c1] at c2; revert c2; decide +kernel
    have hl : its.toArray.size = i := by rw [List.size_toArray, ← rv.length]; exact hx
    refine wpAny_pyNext_enum_endD (Draws.tuple (A := X.A.in1) (by exact (I.ok.hd hc)) it a ha_it its.toArray) he ⟨by rw [hl]; exact hit, pl⟩ fun h' eb => ⟨rfl, I.turned (t' := s.toks) (fun b o hb q => eb b o hb q) f0 f1 f3 f4 f5⟩
  self := fun A i s Q E st h => let ⟨⟨_, he⟩, _⟩ := st; wpAny_pyIter_enum he h

set_option maxHeartbeats 1000000 in
theorem meets_enumerate_new1B {v : Value} {o : Obj} {H : Heap → Prop} (B : Begins v o H) :
    Meets (Builtin.«enumerate.__new__» ⟨[.type "enumerate", v], []⟩) (fun _ R s => H s.heap ∧
      R (.ok (.ret (.ref (s.heap.push o).objs.size))) { s with heap := (s.heap.push o).push { cls := .type "enumerate", data := .fields #[.none, .bool false, .ref s.heap.objs.size, rawInt 0, .none, .none] } }) :=
  .of_wp fun prog w A R s h => by
    obtain ⟨hp, g, d, tk, os⟩ := s; obtain ⟨h1, h⟩ := h
    have hsub := sub_enumerate
    have q1 : ∀ {A' : Around} {E : Value → Shared → Prop} {Q : Value → Shared → Prop}, Q (.ref hp.objs.size) ⟨hp.push o, g, d, tk, os⟩ → wpAny (model prog w) A' (pyIter v) Q E ⟨hp, g, d, tk, os⟩ :=
      fun q => B.iter prog w _ _ ⟨hp, g, d, tk, os⟩ _ h1 q
    wp_walk using q1
    refine wpAny_stack_any fun st => wpAny_pure ?_
    split
    · rename_i c _ _ _ _ _
      cases (c == Value.type "enumerate")
      · wp_walk using q1
        exact ⟨_, rfl, h⟩
      · wp_walk using q1
        exact ⟨_, rfl, h⟩
    · wp_walk using q1
      exact ⟨_, rfl, h⟩
section
variable {prog : Program} {w : World} {A : Around} {E : Value → Shared → Prop} {s : Shared}
theorem enum_begins1 {v : Value} {o : Obj} {H : Heap → Prop} {Q : Value → Shared → Prop} (B : Begins v o H) (h1 : H s.heap)
    (h : ∀ h', IsEnum h' (s.heap.objs.size + 1) s.heap.objs.size 0 .none → h'.get? s.heap.objs.size = some o → h'.objs.size = s.heap.objs.size + 2 →
      (∀ b o, s.heap.get? b = some o → h'.get? b = some o) → Q (.ref (s.heap.objs.size + 1)) { s with heap := h' }) :
    wpAny (model prog w) A (call (.type "enumerate") [v]) Q E s := by
  refine callType_new F.called_enumerate (by decide) (F.typeCall_enumerate_1 _) (F.newCall_enumerate_1 _) (fun obj => F.args_object_init_2 obj _) F.entry_enumerate_new
    (meets_enumerate_new1B B) ⟨h1, ?_⟩
  have hz : (s.heap.push o).objs.size = s.heap.objs.size + 1 := Heap.size_push ..
  show _ ∧ _
  rw [hz]
  have he : IsEnum ((s.heap.push o).push { cls := .type "enumerate", data := .fields #[.none, .bool false, .ref s.heap.objs.size, rawInt 0, .none, .none] }) (s.heap.objs.size + 1) s.heap.objs.size 0 .none := by
    have := Heap.get?_push_size (s.heap.push o) (o := { cls := .type "enumerate", data := .fields #[.none, .bool false, .ref s.heap.objs.size, rawInt 0, .none, .none] }) rfl
    rw [hz] at this; exact this
  refine ⟨⟨_, he, rfl⟩, h _ he (Heap.get?_push_of_some _ (Heap.get?_push_size _ B.free)) (by rw [Heap.size_push, hz]) fun b o x => Heap.get?_push_of_some _ (Heap.get?_push_of_some _ x)⟩
end
noncomputable def rEnum (K : PySem.W.Frag) (k0 : Int) (a : Addr) (H1 : Hp) (R : It → Hp → Prop) : Prop :=
  ((∃ xs, SqL K H1 a xs) ∧ R (ItE_l K k0 a) H1) ∨ ((∃ xs, SqT K H1 a xs) ∧ R (ItE_t K k0 a) H1)
noncomputable def iEnum1 (K : PySem.W.Frag) (ta : TA) : TI := fun σ H R => ta σ H fun vs H1 => ∃ a, vs = [.ref a] ∧ rEnum K 0 a H1 R
noncomputable def iEnum2 (K : PySem.W.Frag) (ta : TA) : TI := fun σ H R => ta σ H fun vs H1 => ∃ a k, vs = [.ref a, .int k] ∧ -(2 ^ 63) ≤ k ∧ k < 2 ^ 63 ∧ rEnum K k a H1 R
section
variable {X : Cx}
theorem enum_pie {elts : List Expr} {kk : Nat} {tpos : Pos} {pins : List (Addr × Obj)} {σ : L2.St} {H1 : Hp} {R : It → Hp → Prop} {s1 : Shared} {h' : Heap} {k0 : Int} {tk : Nat} {J : It} {ok : Nat → Heap → Prop} (I1 : Inv X pins σ H1 s1)
    (he : IsEnum h' (s1.heap.objs.size + 1) s1.heap.objs.size k0 .none) (hk : ∀ b o, s1.heap.get? b = some o → h'.get? b = some o)
    (T : Turn X.prog X.w X.K (.Tuple elts kk tpos) J [s1.heap.objs.size + 1, s1.heap.objs.size] (s1.heap.objs.size + 1) (fun i h => (∃ old, IsEnum h (s1.heap.objs.size + 1) s1.heap.objs.size (k0 + (i : Int)) old) ∧ ok i h ∧ s1.heap.objs.size + 1 ≠ s1.heap.objs.size)) (hok : ok 0 h')
    (q : R J H1) : PIE X pins σ (.Tuple elts kk tpos) R (.ref (s1.heap.objs.size + 1)) { s1 with heap := h', toks := tk } := by
  refine ⟨s1.heap.objs.size + 1, [s1.heap.objs.size + 1, s1.heap.objs.size], _, J, H1, rfl, I1.kept (t' := tk) hk, T, ⟨⟨.none, ?_⟩, hok, Nat.succ_ne_self _⟩, fun b hb => ?_, q⟩
  · have e1 : k0 + ((0 : Nat) : Int) = k0 := by simp
    rw [e1]; exact he
  · have e' : b = s1.heap.objs.size + 1 ∨ b = s1.heap.objs.size := by simpa using hb
    have hle : s1.heap.objs.size ≤ b := by
      rcases e' with z | z
      · rw [z]; exact Nat.le_add_right _ _
      · rw [z]; exact Nat.le_refl _
    exact I1.fpOk hle (I1.hok.fresh hle)
theorem pi_enum1 {e : Expr} {ta : TA} {p pos tpos : Pos} {elts : List Expr} {kk : Nat} (hg : Gl X "enumerate") (hm : X.mg "enumerate" = none) (ha : PA X [e] ta) (hs : starEach [e] X.env = [(false, eval e X.env)] := by rfl) :
    PI X (.Tuple elts kk tpos) (.Call (.Name "enumerate" p) [e] [] pos) (iEnum1 X.K ta) := by
  refine ⟨fun pins s σ H R I h => ?_⟩
  refine Call_ (ld_blt I hg hm boot_enumerate (PyProof.Rows.callWith_type1 (thn (ha.run pos pins s σ H _ I h) fun us s1 ⟨vs, H1, I1, r1, q1⟩ => ?_) hs rfl))
  obtain ⟨a, ex, q⟩ := q1
  subst ex
  cases r1 with
  | cons r rr =>
    cases rr
    cases r
    rcases q with ⟨⟨xs, hq⟩, q⟩ | ⟨⟨xs, hq⟩, q⟩
    · obtain ⟨its, rv, p', hz⟩ := I1.list hq
      refine enum_begins1 (begins_list a its.toArray) p'.isList fun h' he ho hsz hk => wpAny_pyIter_enum he ?_
      exact enum_pie (k0 := 0) (ok := fun i h => h.IsListIter s1.heap.objs.size a i) I1 he hk (turn_enum_l 0 a _ _) ⟨_, ho, rfl, rfl⟩ q
    · obtain ⟨its, rv, p', hz⟩ := I1.tuple hq
      refine enum_begins1 (begins_tuple a its.toArray) (show s1.heap.IsTuple a its.toArray from p') fun h' he ho hsz hk => wpAny_pyIter_enum he ?_
      exact enum_pie (k0 := 0) (ok := fun i h => h.IsTupleIter s1.heap.objs.size a i) I1 he hk (turn_enum_t 0 a _ _) ⟨_, ho, rfl, rfl⟩ q
theorem pi_enum2 {e e2 : Expr} {ta : TA} {p pos tpos : Pos} {elts : List Expr} {kk : Nat} (hg : Gl X "enumerate") (hm : X.mg "enumerate" = none) (ha : PA X [e, e2] ta) (hs : starEach [e, e2] X.env = (false, eval e X.env) :: starEach [e2] X.env := by rfl) (hpl : (backTo pos (starEach [e2] X.env)).any (·.1) = false := by rfl) :
    PI X (.Tuple elts kk tpos) (.Call (.Name "enumerate" p) [e, e2] [] pos) (iEnum2 X.K ta) := by
  refine ⟨fun pins s σ H R I h => ?_⟩
  refine Call_ (ld_blt I hg hm boot_enumerate (PyProof.Rows.callWith_type1 (thn (ha.run pos pins s σ H _ I h) fun us s1 ⟨vs, H1, I1, r1, q1⟩ => ?_) hs hpl))
  obtain ⟨a, k, ex, h0, h1, q⟩ := q1
  subst ex
  cases r1 with
  | cons r rr =>
    cases rr with
    | cons r2 rr =>
      cases rr
      cases r
      obtain ⟨t, rfl⟩ := r2
      rcases q with ⟨⟨xs, hq⟩, q⟩ | ⟨⟨xs, hq⟩, q⟩
      · obtain ⟨its, rv, p', hz⟩ := I1.list hq
        refine enum_begins (begins_list a its.toArray) p'.isList h0 h1 fun h' he ho hsz hk => wpAny_pyIter_enum he ?_
        exact enum_pie (k0 := k) (ok := fun i h => h.IsListIter s1.heap.objs.size a i) I1 he hk (turn_enum_l k a _ _) ⟨_, ho, rfl, rfl⟩ q
      · obtain ⟨its, rv, p', hz⟩ := I1.tuple hq
        refine enum_begins (begins_tuple a its.toArray) (show s1.heap.IsTuple a its.toArray from p') h0 h1 fun h' he ho hsz hk => wpAny_pyIter_enum he ?_
        exact enum_pie (k0 := k) (ok := fun i h => h.IsTupleIter s1.heap.objs.size a i) I1 he hk (turn_enum_t k a _ _) ⟨_, ho, rfl, rfl⟩ q
end
end Pu
set_option Elab.async false
set_option linter.all false
set_option maxRecDepth 100000
set_option maxHeartbeats 2000000
set_option autoImplicit false
namespace Pu
open PySem L2
noncomputable def Sub (G G' : Gp) : Prop := ∀ a g, G a = some g → G' a = some g
noncomputable def ItD (C : Ctx) (G' : Gp) (J : It) (ds : List D) : Prop :=
  ∃ (Gd : Hp → Prop) (Y : Nat → Hp → V → Hp → Prop), Walk J ds.length Gd Y ∧ (∀ (G1 : Gp) (H1 : Hp), Sub G' G1 → Ok G1 H1 → Gd H1) ∧
    ∀ (i : Nat) (G1 : Gp) (H1 : Hp) (x : V) (H2 : Hp), i < ds.length → Sub G' G1 → Ok G1 H1 → Y i H1 x H2 → ∃ d G2, ds[i]? = some d ∧ Ext G1 H1 G2 H2 ∧ R C G2 x d
structure LI (X : Cx) (E : St → XK) (tg iter : Expr) (wi : TI) (pi : PLx) : Prop where
  py : PI X tg iter wi
  le : ∀ {δ : Dl} {σ : St} {G : Gp} {H H0 : Hp} {Q : It → Hp → Prop} {P : List D → Prop} {P2 : Exn → Prop}, Ok G H → SRel (cx X) H0 G H σ δ → EOk (cx X) G H (E σ) P2 → pi δ P P2 →
    (∀ J ds G' H', Ext G H G' H' → ItD (cx X) G' J ds → P ds → Q J H') → wi σ H Q
noncomputable def rangeD (lo : Int) (n : Nat) : List D := (List.range n).map fun (i : Nat) => D.int (lo + i)
theorem rangeD_len {lo : Int} {n : Nat} : (rangeD lo n).length = n := by unfold rangeD; rw [List.length_map, List.length_range]
theorem rangeD_get {lo : Int} {n i : Nat} (h : i < n) : (rangeD lo n)[i]? = some (.int (lo + i)) := by
  unfold rangeD
  rw [List.getElem?_map, List.getElem?_range h]
  rfl
noncomputable def enumD : Int → List D → List D
  | _, [] => []
  | k, d :: ds => .tup [.int k, d] :: enumD (k + 1) ds
theorem enumD_len : ∀ (k : Int) (ds : List D), (enumD k ds).length = ds.length
  | _, [] => rfl
  | k, d :: ds => by unfold enumD; rw [List.length_cons, List.length_cons, enumD_len]
theorem enumD_get : ∀ (k : Int) (ds : List D) (i : Nat) (d : D), ds[i]? = some d → (enumD k ds)[i]? = some (.tup [.int (k + i), d])
  | _, [], i, d, h => by simp at h
  | k, e :: ds, 0, d, h => by
    have : e = d := Option.some.inj h
    subst this
    show some (D.tup [.int k, e]) = _
    simp
  | k, e :: ds, i + 1, d, h => by
    have ih := enumD_get (k + 1) ds i d (by simpa using h)
    have e1 : k + 1 + (i : Int) = k + ((i + 1 : Nat) : Int) := by omega
    rw [e1] at ih
    exact ih
section
variable {C : Ctx} {G : Gp} {a : Addr} {xs : List V} {ds : List D}
theorem itd_list (h : LkG G a xs) (r : RAll C G xs ds) : ItD C G (Itl C.K a) ds := by
  refine ⟨_, _, by rw [← r.length]; exact walk_list (K := C.K) (a := a) (xs := xs), fun G1 H1 k ok => SqL.of (ok.lk (h.mono k)), fun i G1 H1 x H2 _ k ok y => ?_⟩
  obtain ⟨rfl, hx⟩ := y
  obtain ⟨d, hd, rd⟩ := r.getV hx
  exact ⟨d, G1, hd, .refl ok, rd.mono k⟩
theorem itd_tup (h : TpG C G a xs) (r : RAll C G xs ds) : ItD C G (Itt C.K a) ds := by
  refine ⟨_, _, by rw [← r.length]; exact walk_tup (K := C.K) (a := a) (xs := xs), fun G1 H1 k ok => (h.mono k).seq ok, fun i G1 H1 x H2 _ k ok y => ?_⟩
  obtain ⟨rfl, hx⟩ := y
  obtain ⟨d, hd, rd⟩ := r.getV hx
  exact ⟨d, G1, hd, .refl ok, rd.mono k⟩
theorem itd_range {lo : Int} {n : Nat} : ItD C G (Itr lo n) (rangeD lo n) := by
  refine ⟨_, _, by rw [rangeD_len]; exact walk_range (lo := lo) (n := n), fun _ _ _ _ => trivial, fun i G1 H1 x H2 hi k ok y => ?_⟩
  rw [rangeD_len] at hi
  obtain ⟨rfl, rfl⟩ := y
  exact ⟨_, G1, rangeD_get hi, .refl ok, .int _⟩
theorem pair_new {C : Ctx} {G1 : Gp} {H1 : Hp} {T : Addr} {o : Obj} {k : Int} {x : V} {d : D} (ok : Ok G1 H1) (hT : H1 T = none) (ho : o.dict = none) (r : R C G1 x d) :
    ∃ G2, Ext G1 H1 G2 (upd H1 T (.frz o (.tup [.int k, x]))) ∧ R C G2 (.ref T) (.tup [.int k, d]) :=
  ⟨_, Ext.newT ok hT ho (.cons (.int k) (.cons r .nil))⟩
theorem itd_enum_l {k0 : Int} (h : LkG G a xs) (r : RAll C G xs ds) : ItD C G (ItE_l C.K k0 a) (enumD k0 ds) := by
  have hl : (enumD k0 ds).length = xs.length := by rw [enumD_len, r.length]
  refine ⟨fun H => SqL C.K H a xs, fun i H v H' => ∃ T x o, v = .ref T ∧ H T = none ∧ o.dict = none ∧ H' = upd H T (.frz o (.tup [.int (k0 + (i : Int)), x])) ∧ xs[i]? = some x, ⟨fun i H hi q => ⟨xs, xs[i]'(by omega), q, by simp [show i < xs.length by omega]⟩, fun H q => ⟨xs, q, hl.symm⟩,
    fun i H x H' hi q ⟨T, y, o, h1, h2, h5, h3, h4⟩ => ⟨T, y, o, h1, h2, h5, h3, h4 xs q⟩⟩, fun G1 H1 k ok => SqL.of (ok.lk (h.mono k)), fun i G1 H1 x H2 hi k ok y => ?_⟩
  obtain ⟨T, y, ob, rfl, hT, ho, rfl, hy⟩ := y
  obtain ⟨d, hd, rd⟩ := r.getV hy
  obtain ⟨G2, e2, r2⟩ := pair_new (k := k0 + (i : Int)) ok hT ho (rd.mono k)
  exact ⟨_, G2, enumD_get _ _ _ _ hd, e2, r2⟩
theorem itd_enum_t {k0 : Int} (h : TpG C G a xs) (r : RAll C G xs ds) : ItD C G (ItE_t C.K k0 a) (enumD k0 ds) := by
  have hl : (enumD k0 ds).length = xs.length := by rw [enumD_len, r.length]
  refine ⟨fun H => SqT C.K H a xs, fun i H v H' => ∃ T x o, v = .ref T ∧ H T = none ∧ o.dict = none ∧ H' = upd H T (.frz o (.tup [.int (k0 + (i : Int)), x])) ∧ xs[i]? = some x, ⟨fun i H hi q => ⟨xs, xs[i]'(by omega), q, by simp [show i < xs.length by omega]⟩, fun H q => ⟨xs, q, hl.symm⟩,
    fun i H x H' hi q ⟨T, y, o, h1, h2, h5, h3, h4⟩ => ⟨T, y, o, h1, h2, h5, h3, h4 xs q⟩⟩, fun G1 H1 k ok => (h.mono k).seq ok, fun i G1 H1 x H2 hi k ok y => ?_⟩
  obtain ⟨T, y, ob, rfl, hT, ho, rfl, hy⟩ := y
  obtain ⟨d, hd, rd⟩ := r.getV hy
  obtain ⟨G2, e2, r2⟩ := pair_new (k := k0 + (i : Int)) ok hT ho (rd.mono k)
  exact ⟨_, G2, enumD_get _ _ _ _ hd, e2, r2⟩
end
noncomputable def iSeq (K : PySem.W.Frag) (te : TE) : TI := fun σ H R => te σ H fun x H1 => ∃ a, x = .ref a ∧ (((∃ xs, SqL K H1 a xs) ∧ R (Itl K a) H1) ∨ ((∃ xs, SqT K H1 a xs) ∧ R (Itt K a) H1))
section
variable {X : Cx} {E : L2.St → XK}
theorem pi_seq {tg l : Expr} {tl : TE} (hl : PE X l tl) : PI X tg l (iSeq X.K tl) := by
  refine ⟨fun pins s σ H R I h => ?_⟩
  refine thn (hl.run pins s σ H _ I h) fun v s1 ⟨x, H1, I1, r1, q1⟩ => ?_
  obtain ⟨a, e, q⟩ := q1
  subst e
  cases r1
  rcases q with ⟨⟨xs, hq⟩, q⟩ | ⟨⟨xs, hq⟩, q⟩
  · obtain ⟨its, rv, p, hz⟩ := I1.list hq
    refine wpAny_pyIter_list p.isList ?_
    refine ⟨s1.heap.objs.size, [s1.heap.objs.size], _, _, H1, rfl, I1.kept (t' := s1.toks) fun b o e => Heap.get?_push_of_some _ e, turn_list a _, ⟨_, Heap.get?_push_size _ rfl, rfl, rfl⟩, fun b hb => ?_, q⟩
    have e : b = s1.heap.objs.size := by simpa using hb
    subst e
    exact I1.fpOk (Nat.le_refl _) (I1.hok.fresh (Nat.le_refl _))
  · obtain ⟨its, rv, p, hz⟩ := I1.tuple hq
    refine wpAny_pyIter_tuple (show s1.heap.IsTuple a its.toArray from p) ?_
    refine ⟨s1.heap.objs.size, [s1.heap.objs.size], _, _, H1, rfl, I1.kept (t' := s1.toks) fun b o e => Heap.get?_push_of_some _ e, turn_tuple a _, ⟨_, Heap.get?_push_size _ rfl, rfl, rfl⟩, fun b hb => ?_, q⟩
    have e : b = s1.heap.objs.size := by simpa using hb
    subst e
    exact I1.fpOk (Nat.le_refl _) (I1.hok.fresh (Nat.le_refl _))
noncomputable def pItems (pe : PX) : PLx := fun δ P P2 => pe δ (fun d => match itemsD d with | some ds => P ds | none => False) P2
theorem R.items {C : Ctx} {G : Gp} {v : V} {d : D} {ds : List D} (r : R C G v d) (e : itemsD d = some ds) : ∃ a xs, v = .ref a ∧ (LkG G a xs ∨ TpG C G a xs) ∧ RAll C G xs ds := by
  unfold itemsD at e
  split at e
  · cases e
    cases r with
    | lst h r => exact ⟨_, _, rfl, .inl (.inl h), r⟩
  · cases e
    cases r with
    | vw h r => exact ⟨_, _, rfl, .inl (.inr h), r⟩
  · cases e
    cases r with
    | tup h r => exact ⟨_, _, rfl, .inr h, r⟩
  · cases e
theorem li_seq {tg l : Expr} {tl : TE} {pe : PX} (hl : LX X E l tl pe) : LI X E tg l (iSeq X.K tl) (pItems pe) := by
  refine ⟨pi_seq hl.py, fun {δ σ G H H0 Q P P2} k s x p q => hl.le k s x p fun v d G' H' y r p' => ?_⟩
  split at p'
  · rename_i ds e
    obtain ⟨a, xs, rfl, h, r⟩ := r.items e
    refine ⟨a, rfl, ?_⟩
    rcases h with h | h
    · exact .inl ⟨⟨xs, SqL.of (y.ok.lk h)⟩, q _ ds _ _ y (itd_list h r) p'⟩
    · exact .inr ⟨⟨xs, h.seq y.ok⟩, q _ ds _ _ y (itd_tup h r) p'⟩
  · exact p'.elim
noncomputable def pEnum (k0 : Int) (pe : PX) : PLx := fun δ P P2 => pe δ (fun d => match itemsD d with | some ds => P (enumD k0 ds) | none => False) P2
theorem li_enum1 {e : Expr} {te : TE} {pe : PX} {p pos tpos : Pos} {elts : List Expr} {kk : Nat} (hg : Gl X "enumerate") (hm : X.mg "enumerate" = none) (he : LX X E e te pe) (hs : starEach [e] X.env = [(false, eval e X.env)] := by rfl) :
    LI X E (.Tuple elts kk tpos) (.Call (.Name "enumerate" p) [e] [] pos) (iEnum1 X.K (tCons te tNil)) (pEnum 0 pe) := by
  refine ⟨pi_enum1 hg hm (pa_cons he.py pa_nil hs) hs, fun {δ σ G H H0 Q P P2} k s x p q => he.le k s x p fun v d G' H' y r p' => ?_⟩
  split at p'
  · rename_i ds e
    obtain ⟨a, xs, rfl, h, r⟩ := r.items e
    refine ⟨a, rfl, ?_⟩
    rcases h with h | h
    · exact .inl ⟨⟨xs, SqL.of (y.ok.lk h)⟩, q _ _ _ _ y (itd_enum_l h r) p'⟩
    · exact .inr ⟨⟨xs, h.seq y.ok⟩, q _ _ _ _ y (itd_enum_t h r) p'⟩
  · exact p'.elim
theorem li_enum2 {e : Expr} {te : TE} {pe : PX} {p pos tpos p2 : Pos} {elts : List Expr} {kk j : Nat} {k0 : Int} (hg : Gl X "enumerate") (hm : X.mg "enumerate" = none) (he : LX X E e te pe) (h0 : -(2 ^ 63) ≤ k0 := by decide) (h1 : k0 < 2 ^ 63 := by decide)
    (hs : starEach [e, .Constant (.int k0) j p2] X.env = (false, eval e X.env) :: starEach [.Constant (.int k0) j p2] X.env := by rfl) (hs2 : starEach [.Constant (.int k0) j p2] X.env = (false, eval (.Constant (.int k0) j p2) X.env) :: starEach [] X.env := by rfl) (hpl : (backTo pos (starEach [.Constant (.int k0) j p2] X.env)).any (·.1) = false := by rfl) :
    LI X E (.Tuple elts kk tpos) (.Call (.Name "enumerate" p) [e, .Constant (.int k0) j p2] [] pos) (iEnum2 X.K (tCons te (tCons (tC (.int k0)) tNil))) (pEnum k0 pe) := by
  refine ⟨pi_enum2 hg hm (pa_cons he.py (pa_cons pe_int pa_nil hs2) hs) hs hpl, fun {δ σ G H H0 Q P P2} k s x p q => he.le k s x p fun v d G' H' y r p' => ?_⟩
  split at p'
  · rename_i ds e
    obtain ⟨a, xs, rfl, h, r⟩ := r.items e
    refine ⟨a, k0, rfl, h0, h1, ?_⟩
    rcases h with h | h
    · exact .inl ⟨⟨xs, SqL.of (y.ok.lk h)⟩, q _ _ _ _ y (itd_enum_l h r) p'⟩
    · exact .inr ⟨⟨xs, h.seq y.ok⟩, q _ _ _ _ y (itd_enum_t h r) p'⟩
  · exact p'.elim
noncomputable def b62 (i : Int) : Prop := -(2 ^ 62) ≤ i ∧ i < 2 ^ 62
noncomputable def pRange1 (pe : PX) : PLx := fun δ P P2 => pe δ (fun d => match d with | .int j => b62 j ∧ P (rangeD 0 j.toNat) | _ => False) P2
noncomputable def pRange2 (pe pf : PX) : PLx := fun δ P P2 => pe δ (fun d => pf δ (fun e => match d, e with | .int i, .int j => b62 i ∧ b62 j ∧ P (rangeD i (j - i).toNat) | _, _ => False) P2) P2
theorem R.intR {C : Ctx} {G : Gp} {v : V} {i : Int} (r : R C G v (.int i)) : v = .int i := by cases r; rfl
theorem li_range1 {tg e : Expr} {te : TE} {pe : PX} {p pos : Pos} (hg : Gl X "range") (hm : X.mg "range" = none) (he : LX X E e te pe) (hs : starEach [e] X.env = [(false, eval e X.env)] := by rfl) :
    LI X E tg (.Call (.Name "range" p) [e] [] pos) (iRng1 (tCons te tNil)) (pRange1 pe) := by
  refine ⟨pi_range1 hg hm (pa_cons he.py pa_nil hs) hs, fun {δ σ G H H0 Q P P2} k s x p q => he.le k s x p fun v d G' H' y r p' => ?_⟩
  split at p'
  · obtain rfl := r.intR
    exact ⟨_, rfl, p'.1.1, p'.1.2, q _ _ _ _ y itd_range p'.2⟩
  · exact p'.elim
theorem li_range2 {tg e f : Expr} {te tf : TE} {pe pf : PX} {p pos : Pos} (hg : Gl X "range") (hm : X.mg "range" = none) (he : LX X E e te pe) (hf : LX X E f tf pf) (hs : starEach [e, f] X.env = (false, eval e X.env) :: starEach [f] X.env := by rfl) (hs2 : starEach [f] X.env = (false, eval f X.env) :: starEach [] X.env := by rfl) (hs3 : starEach [f] X.env = [(false, eval f X.env)] := by rfl)
    (hpl : (backTo pos (starEach [f] X.env)).any (·.1) = false := by rfl) :
    LI X E tg (.Call (.Name "range" p) [e, f] [] pos) (iRng2 (tCons te (tCons tf tNil))) (pRange2 pe pf) := by
  refine ⟨pi_range2 hg hm (pa_cons he.py (pa_cons hf.py pa_nil hs2) hs) (by rw [hs, hs3]) hs3, fun {δ σ G H H0 Q P P2} k s x p q => he.le k s x p fun v d G' H' y r p' => ?_⟩
  refine hf.le y.ok (s.ext y) (x.ext y) p' fun v2 d2 G2 H2 y2 r2 p2 => ?_
  split at p2
  · obtain rfl := r.intR
    obtain rfl := r2.intR
    exact ⟨_, _, rfl, ⟨p2.1.1, p2.1.2, p2.2.1.1, p2.2.1.2⟩, q _ _ _ _ (y.trans y2) itd_range p2.2.2⟩
  · exact p2.elim
noncomputable abbrev PG' := D → Dl → (Dl → Prop) → Prop
noncomputable def pForL (pg : PG') (body : PSx) (P : PEnds) : List D → Dl → Prop
  | [], δ => P.nx δ
  | d :: ds, δ => pg d δ fun δ' => body { P with nx := pForL pg body P ds, ct := pForL pg body P ds, bk := P.nx } δ'
noncomputable def pFor (pi : PLx) (pg : PG') (body : PSx) : PSx := fun P δ => pi δ (fun ds => pForL pg body P ds δ) (P.ex δ)
theorem Stt.rebase {C : Ctx} {G0 G' : Gp} {H0 H' : Hp} {σ : St} {δ : Dl} (t : Stt C G0 H0 σ δ G' H') : ∃ Hb, Stt C G' Hb σ δ G' H' ∧ (∀ {G H}, Ext G' Hb G H → Ext G0 H0 G H) ∧ ∀ {σ δ G H}, Stt C G' Hb σ δ G H → Stt C G0 H0 σ δ G H := by
  classical
  let Hb : Hp := fun a => if (G' a).isSome ∨ (H0 a).isSome then H' a else none
  have ext : ∀ {G H}, Ext G' Hb G H → Ext G0 H0 G H := fun {G H} x => ⟨fun a g h => x.g a g (t.ext.g a g h), x.ok, fun a o h g => by
    obtain ⟨h1, g1⟩ := t.ext.h a o h g
    exact x.h a o (by show (if _ then H' a else none) = _; rw [if_pos (.inr (by rw [h]; rfl))]; exact h1) g1⟩
  have nn : ∀ a, Hb a = none → H0 a = none := fun a h => by
    cases e : H0 a with
    | none => rfl
    | some o =>
      have e2 : Hb a = H' a := if_pos (.inr (by rw [e]; rfl))
      rw [h] at e2
      have := t.ext.back e2.symm
      rw [e] at this; cases this
  refine ⟨Hb, ⟨⟨fun _ _ h => h, t.ok, fun a o h g => ⟨?_, g⟩⟩, ⟨t.sr.len, fun i s h => ?_, t.sr.apart, t.sr.apT⟩⟩, ext, fun {σ δ G H} u => ⟨ext u.ext, ⟨u.sr.len, fun i s h => ?_, u.sr.apart, u.sr.apT⟩⟩⟩
  · have h' : (if (G' a).isSome ∨ (H0 a).isSome then H' a else none) = some o := h
    split at h'
    · exact h'
    · cases h'
  · obtain ⟨v, e, r⟩ := t.sr.at_ i s h
    refine ⟨v, e, ?_⟩
    cases r with
    | d r => exact .d r
    | own ha hx gx nx rx => exact .own ha hx gx (if_neg (by rw [gx, nx]; simp)) rx
    | slf m hx gx nx rx l => exact .slf m hx gx (if_neg (by rw [gx, nx]; simp)) rx l
    | exc r => exact .exc r
    | tree t1 t2 r => exact .tree t1 (fun a pa => let ⟨n1, n2, n3⟩ := t2 a pa; ⟨if_neg (by rw [n2, n1]; simp), n2, n3⟩) r
  · obtain ⟨v, e, r⟩ := u.sr.at_ i s h
    refine ⟨v, e, ?_⟩
    cases r with
    | d r => exact .d r
    | own ha hx gx nx rx => exact .own ha hx gx (nn _ nx) rx
    | slf m hx gx nx rx l => exact .slf m hx gx (nn _ nx) rx l
    | exc r => exact .exc r
    | tree t1 t2 r => exact .tree t1 (fun a pa => let ⟨n1, n2, n3⟩ := t2 a pa; ⟨nn _ n1, n2, n3⟩) r
theorem ls_for {tg iter : Expr} {body : List Stmt} {wi : TI} {g : TG} {tb : TS} {pi : PLx} {pg : PG'} {pb : PSx} {js : List Nat} {pos : Pos} (hp : PassesOwn (model X.prog X.w) X.A X.env X.xe) (hc : X.calm = true) (hi : LI X E tg iter wi pi) (hg : LG X tg g pg js) (hb : LSs X E body tb pb)
    (hs : ∀ x, foldedSetIterable iter X.env x = pure x := by intro _; rfl) : LS X E (.For tg iter body [] pos) (tFor wi g tb) (pFor pi pg pb) := by
  refine ⟨ps_for hp hc hi.py hg.py hb.py hs, fun {G0 H0 Dn P δ σ G H} e t p => hi.le t.ok t.sr (e.ex t) p fun J ds G' H' y it q => ?_⟩
  have t1 : Stt (cx X) G0 H0 σ δ G' H' := t.step y
  obtain ⟨Hb, t2, xb, back⟩ := t1.rebase
  obtain ⟨Gd, Y, w, gd, yy⟩ := it
  refine for_it w (fun i σ H => ∃ δ G, Stt (cx X) G' Hb σ δ G H ∧ pForL pg pb P (ds.drop i) δ) ⟨δ, G', t2, q⟩ (fun i σ H _ ⟨δ, G, u, _⟩ => gd G H u.ext.g u.ok) (fun i x σ1 H1 H2 hi' ⟨δ1, G1, u, q1⟩ hy => ?_) fun σ1 H1 ⟨δ1, G1, u, q1⟩ => ?_
  · obtain ⟨d, G2, hd, x2, r2⟩ := yy i G1 H1 x H2 hi' u.ext.g u.ok hy
    have ed : ds.drop i = d :: ds.drop (i + 1) := by
      obtain ⟨hlt, hd'⟩ := List.getElem?_eq_some_iff.mp hd
      rw [← hd']; exact List.drop_eq_getElem_cons hlt
    rw [ed] at q1
    have u2 := u.step x2
    refine hg.le x2.ok u2.sr r2 q1 fun σ3 δ3 s3 _ q3 => ?_
    exact hb.le (P := { P with nx := pForL pg pb P (ds.drop (i + 1)), ct := pForL pg pb P (ds.drop (i + 1)), bk := P.nx }) ⟨fun {σ δ G H} u' q' => ⟨δ, G, u', q'⟩, fun {σ δ v d G H} u' r' q' => e.rt (back u') r' q', fun {σ δ G H} u' q' => e.nx (back u') q', fun {σ δ G H} u' q' => ⟨δ, G, u', q'⟩, fun {σ δ G H} u' => e.ex (back u')⟩ ⟨u2.ext, s3⟩ q3
  · rw [List.drop_length] at q1
    exact e.nx (back u) q1
noncomputable def teOf (C : Ctx) (E : St → XK) (pe : PX) : TE := fun σ H Q => ∃ (δ : Dl) (G : Gp) (H0 : Hp) (P : D → Prop) (P2 : Exn → Prop), Ok G H ∧ SRel C H0 G H σ δ ∧ EOk C G H (E σ) P2 ∧ pe δ P P2 ∧ ∀ v d G' H', Ext G H G' H' → R C G' v d → P d → Q v H'
noncomputable def ttOf (C : Ctx) (E : St → XK) (pt : PTx) : TT := fun σ H Q => ∃ (δ : Dl) (G : Gp) (H0 : Hp) (P : Bool → Prop) (P2 : Exn → Prop), Ok G H ∧ SRel C H0 G H σ δ ∧ EOk C G H (E σ) P2 ∧ pt δ P P2 ∧ ∀ b G' H', Ext G H G' H' → P b → Q b H'
noncomputable def gOf (C : Ctx) (pg : PG') (js : List Nat) : TG := fun v σ H Q => ∃ (δ : Dl) (G : Gp) (H0 : Hp) (d : D) (P : Dl → Prop), Ok G H ∧ SRel C H0 G H σ δ ∧ R C G v d ∧ pg d δ P ∧ ∀ σ' δ', SRel C H0 G H σ' δ' → Out js σ σ' → P δ' → Q σ' H
noncomputable def tsOf (C : Ctx) (E : St → XK) (ps : PSx) : TS := fun Dn σ H => ∃ (G0 : Gp) (H0 : Hp) (P : PEnds) (δ : Dl) (G : Gp), EndsR C G0 H0 E Dn P ∧ Stt C G0 H0 σ δ G H ∧ ps P δ
theorem LX.sem {e : Expr} {te : TE} {pe : PX} (h : LX X E e te pe) : LX X E e (teOf (cx X) E pe) pe :=
  ⟨⟨fun pins s σ H Q I ⟨δ, G, H0, P, P2, k, r, x, p, q⟩ => h.py.run pins s σ H Q I (h.le k r x p q)⟩, fun k s x p q => ⟨_, _, _, _, _, k, s, x, p, q⟩⟩
theorem LG.sem {tg : Expr} {g : TG} {pg : PG'} {js : List Nat} (h : LG X tg g pg js) : LG X tg (gOf (cx X) pg js) pg js :=
  ⟨⟨fun pins s σ H v u Q I rv ⟨δ, G, H0, d, P, k, r, rd, p, q⟩ => h.py.run pins s σ H v u Q I rv (h.le k r rd p q)⟩, fun k s r p q => ⟨_, _, _, _, _, k, s, r, p, q⟩⟩
theorem LSs.sem {st : List Stmt} {t : TS} {ps : PSx} (h : LSs X E st t ps) : LSs X E st (tsOf (cx X) E ps) ps :=
  ⟨⟨fun pins s σ H D I ⟨G0, H0, P, δ, G, e, r, p⟩ => h.py.run pins s σ H D I (h.le e r p)⟩, fun e t p => ⟨_, _, _, _, _, e, t, p⟩⟩
theorem wipe_wipe {σ : St} {vs : List Nat} : wipe (wipe σ vs) vs = wipe σ vs := by
  apply List.ext_getElem?
  intro i
  by_cases m : i ∈ vs
  · rw [wipe_at m, wipe_at m, wipe_length]
  · rw [wipe_out m]
structure LTs (X : Cx) (E : St → XK) (ifs : List Expr) (tt : TT) (pt : PTx) : Prop where
  py : PTs X ifs tt
  le : ∀ {δ : Dl} {σ : St} {G : Gp} {H H0 : Hp} {Q : Bool → Hp → Prop} {P : Bool → Prop} {P2 : Exn → Prop}, Ok G H → SRel (cx X) H0 G H σ δ → EOk (cx X) G H (E σ) P2 → pt δ P P2 →
    (∀ b G' H', Ext G H G' H' → P b → Q b H') → tt σ H Q
theorem LTs.sem {ifs : List Expr} {tt : TT} {pt : PTx} (h : LTs X E ifs tt pt) : LTs X E ifs (ttOf (cx X) E pt) pt :=
  ⟨⟨fun pins s σ H Q I ⟨δ, G, H0, P, P2, k, r, x, p, q⟩ => h.py.run pins s σ H Q I (h.le k r x p q)⟩, fun k s x p q => ⟨_, _, _, _, _, k, s, x, p, q⟩⟩
noncomputable def pYes : PTx := fun _ P _ => P true
theorem lts_nil : LTs X E [] tYes pYes := ⟨pts_nil, fun k s x p q => q _ _ _ (.refl k) p⟩
theorem lts_one {c : Expr} {tt : TT} {pt : PTx} (h : LT X E c tt pt) : LTs X E [c] tt pt := ⟨pts_one h.py, h.le⟩
noncomputable abbrev E0S : St → XK := fun _ _ _ _ => False
theorem eok0 {C : Ctx} {G : Gp} {H : Hp} {σ : St} : EOk C G H (E0S σ) (fun _ => False) := fun _ _ _ _ _ _ _ p => p
noncomputable def pLcL (pg : PG') (pt : PTx) (pe : PX) (δw : Dl) (P : D → Prop) : List D → List D → Prop
  | [], es => P (.lst es)
  | d :: ds, es => pg d δw fun δ' => pt δ' (fun b => if b = true then pe δ' (fun y => es.length < szl ∧ pLcL pg pt pe δw P ds (es ++ [y])) (fun _ => False) else pLcL pg pt pe δw P ds es) fun _ => False
noncomputable def pLc (pi : PLx) (pg : PG') (pt : PTx) (pe : PX) (vs : List Nat) : PX := fun δ P P2 => pi δ (fun ds => pLcL pg pt pe (wipeD δ vs) P ds []) P2
theorem lc_le {tg iter elt : Expr} {ifs : List Expr} {wi : TI} {g : TG} {tt : TT} {te : TE} {pi : PLx} {pg : PG'} {pt : PTx} {pe : PX} {js vs : List Nat} {X1 : Cx} (hX : cx X1 = cx X) (hi : LI X E tg iter wi pi) (hg : LG X1 tg g pg js) (ht : LTs X1 E0S ifs tt pt) (he : LX X1 E0S elt te pe) (hj : ∀ i ∈ js, i ∈ vs)
    {δ : Dl} {σ : St} {G : Gp} {H H0 : Hp} {Q : VK} {P : D → Prop} {P2 : Exn → Prop} (k : Ok G H) (s : SRel (cx X) H0 G H σ δ) (x : EOk (cx X) G H (E σ) P2) (p : pLc pi pg pt pe vs δ P P2)
    (q : ∀ p xs ds G' H', Ext G H G' H' → H p = none → H' p = some (.lst xs) → G' p = none → RAll (cx X) G' xs ds → P (.lst ds) → Q (.ref p) H') : tLc wi g tt te vs σ H Q := by
  refine hi.le k s x p fun J ds G' H' y it q1 => ?_
  intro A hA
  obtain ⟨Gd, Y, w, gd, yy⟩ := it
  have sw : SRel (cx X) H0 G' H' (wipe σ vs) (wipeD δ vs) := (s.ext y).wipe vs
  refine lc_it w (fun i H1 => ∃ G1 acc es, Ext G' H' G1 H1 ∧ H1 A = some (.lst acc) ∧ G1 A = none ∧ RAll (cx X) G1 acc es ∧ pLcL pg pt pe (wipeD δ vs) P (ds.drop i) es) ⟨G', [], [], Ext.new y.ok hA, upd_same, y.ok.none_of hA, .nil, q1⟩
    (fun i H1 _ ⟨G1, acc, es, x1, h1, g1, r1, q1⟩ => gd G1 H1 x1.g x1.ok) (fun i v H1 H2 hi' ⟨G1, acc, es, x1, h1, g1, r1, q1⟩ hy => ?_) fun H1 ⟨G1, acc, es, x1, h1, g1, r1, q1⟩ => ?_
  · obtain ⟨d, G2, hd, x2, r2⟩ := yy i G1 H1 v H2 hi' x1.g x1.ok hy
    have ed : ds.drop i = d :: ds.drop (i + 1) := by
      obtain ⟨hlt, hd'⟩ := List.getElem?_eq_some_iff.mp hd
      rw [← hd']; exact List.drop_eq_getElem_cons hlt
    rw [ed] at q1
    have x12 := x1.trans x2
    obtain ⟨h2, g2⟩ := x2.h _ _ h1 g1
    refine hg.le (H0 := H0) x2.ok (by rw [hX]; exact sw.ext x12) (by rw [hX]; exact r2) q1 fun σ3 δ3 s3 o3 q3 => ⟨o3.wipe hj |>.trans (by rw [wipe_wipe]), ?_⟩
    refine ht.le (H0 := H0) x2.ok s3 eok0 q3 fun b G3 H3 x3 q4 => ?_
    obtain ⟨h3, g3⟩ := x3.h _ _ h2 g2
    split at q4
    · rename_i eb
      rw [if_pos eb]
      refine he.le x3.ok (s3.ext x3) eok0 q4 fun u d' G4 H4 x4 r4 q5 => ?_
      obtain ⟨h4, g4⟩ := x4.h _ _ h3 g3
      have x14 : Ext G' H' G4 H4 := (x12.trans x3).trans x4
      rw [hX] at r4
      have r1' := (r1.mono (((x2.trans x3).trans x4).g))
      refine ⟨acc, h4, by rw [r1.length, sizeLine_eq]; exact q5.1, G4, acc ++ [u], es ++ [d'], x14.write hA g4, upd_same, g4, r1'.append (.one r4), q5.2⟩
    · rename_i eb
      rw [if_neg eb]
      exact ⟨G3, acc, es, x12.trans x3, h3, g3, r1.mono ((x2.trans x3).g), q4⟩
  · rw [List.drop_length] at q1
    exact q A acc es G1 H1 (y.trans x1) (y.back hA) h1 g1 r1 q1

section
variable {elt tg iter : Expr} {ifs : List Expr} {scope : Scope} {own : List (Str × Nat)} {pos : Pos} {wi : TI} {g : TG} {tt : TT} {te : TE} {pi : PLx} {pg : PG'} {pt : PTx} {pe : PX} {js : List Nat}
theorem lo_lc (hc : X.calm = true) (hN : X.N.Nodup) (hi : LI X E tg iter wi pi) (ok : BlkOk X.N X.env.scope scope own)
    (hg : ∀ (s : Shared) (H : Hp) (C : Addr) (cl : List (Str × Addr)) (fp : List Addr), ∃ g, LG (X.blk s H scope (compEnvC scope cl C X.env) fp) tg g pg js)
    (ht : ∀ (s : Shared) (H : Hp) (C : Addr) (cl : List (Str × Addr)) (fp : List Addr), ∃ tt, LTs (X.blk s H scope (compEnvC scope cl C X.env) fp) E0S ifs tt pt)
    (he : ∀ (s : Shared) (H : Hp) (C : Addr) (cl : List (Str × Addr)) (fp : List Addr), ∃ te, LX (X.blk s H scope (compEnvC scope cl C X.env) fp) E0S elt te pe)
    (hj : ∀ i ∈ js, i ∈ own.map (·.2)) (hs : ∀ x, foldedSetIterable iter X.env x = pure x := by intro _; rfl) :
    LO X E (.ListComp elt [⟨tg, iter, ifs, 0⟩] scope pos) (tLc wi (gOf (cx X) pg js) (ttOf (cx X) E0S pt) (teOf (cx X) E0S pe) (own.map (·.2))) (pLc pi pg pt pe (own.map (·.2))) :=
  ⟨pe_lc hc hN hi.py ok (fun s H C cl fp => let ⟨_, h⟩ := hg s H C cl fp; h.sem.py) (fun s H C cl fp => let ⟨_, h⟩ := ht s H C cl fp; h.sem.py) (fun s H C cl fp => let ⟨_, h⟩ := he s H C cl fp; h.sem.py) hs,
    fun {δ σ G H H0 Q P P2} k s x p q => lc_le (X := X) (X1 := X.blk ({} : Shared) H scope (compEnvC scope [] 0 X.env) []) rfl hi (Classical.choose_spec (hg _ _ _ _ _)).sem (Classical.choose_spec (ht _ _ _ _ _)).sem (Classical.choose_spec (he _ _ _ _ _)).sem hj k s x p q⟩

theorem ls_setLc (i : Nat) {y : Str} {py spos : Pos} (hc : X.calm = true) (hN : X.N.Nodup) (hi : LI X E tg iter wi pi) (ok : BlkOk X.N X.env.scope scope own)
    (hg : ∀ (s : Shared) (H : Hp) (C : Addr) (cl : List (Str × Addr)) (fp : List Addr), ∃ g, LG (X.blk s H scope (compEnvC scope cl C X.env) fp) tg g pg js)
    (ht : ∀ (s : Shared) (H : Hp) (C : Addr) (cl : List (Str × Addr)) (fp : List Addr), ∃ tt, LTs (X.blk s H scope (compEnvC scope cl C X.env) fp) E0S ifs tt pt)
    (he : ∀ (s : Shared) (H : Hp) (C : Addr) (cl : List (Str × Addr)) (fp : List Addr), ∃ te, LX (X.blk s H scope (compEnvC scope cl C X.env) fp) E0S elt te pe)
    (hj : ∀ i ∈ js, i ∈ own.map (·.2)) (hy : X.N[i]? = some y := by rfl) (hyl : X.env.scope.names.lookup y = some .local := by rfl) (hsw : swapsWith (.ListComp elt [⟨tg, iter, ifs, 0⟩] scope pos) (some (.Name y py)) spos.line X.env = pure true := by exact sw_true rfl rfl rfl (by decide +kernel))
    (hs : ∀ x, foldedSetIterable iter X.env x = pure x := by intro _; rfl) :
    LS X E (.Assign [.Name y py] (.ListComp elt [⟨tg, iter, ifs, 0⟩] scope pos) spos) (tAsg (tLc wi (gOf (cx X) pg js) (ttOf (cx X) E0S pt) (teOf (cx X) E0S pe) (own.map (·.2))) (gName i)) (pAsg (pLc pi pg pt pe (own.map (·.2))) i) :=
  ⟨ps_setLc hc hN hy hyl hsw hi.py ok (fun s H C cl fp => let ⟨_, h⟩ := hg s H C cl fp; h.sem.py) (fun s H C cl fp => let ⟨_, h⟩ := ht s H C cl fp; h.sem.py) (fun s H C cl fp => let ⟨_, h⟩ := he s H C cl fp; h.sem.py) hs,
    fun {G0 H0 Dn P δ σ G H} e t p => lc_le (X := X) (X1 := X.blk ({} : Shared) H scope (compEnvC scope [] 0 X.env) []) rfl hi (Classical.choose_spec (hg _ _ _ _ _)).sem (Classical.choose_spec (ht _ _ _ _ _)).sem (Classical.choose_spec (he _ _ _ _ _)).sem hj t.ok t.sr (e.ex t) p
      fun l xs ds G' H' y hn hp gp r q => by
        have x2 := y.share hn hp gp
        exact e.nx ⟨t.ext.trans x2, (t.sr.ext x2).setD (.lst updG_same (r.mono (updG_keep gp)))⟩ q⟩
end
end
end Pu
set_option Elab.async false
set_option linter.all false
set_option maxRecDepth 100000
set_option maxHeartbeats 2000000
set_option autoImplicit false
namespace Pu
open PySem PySem.Spec L2
noncomputable def liftSp (C : Ctx) (p : PSp) (n : Nat) : Sp := fun vs H Q E => vs.length = n ∧ ∃ (G : Gp) (ds : List D) (P : D → Prop) (P2 : Exn → Prop), Ok G H ∧ RAll C G vs ds ∧ p ds P P2 ∧
  (∀ v d G' H', Ext G H G' H' → R C G' v d → P d → Q v H') ∧ EOk C G H E P2
noncomputable def startD (N : Nat) (ds : List D) : Dl := ds.map (fun d => some (.d d)) ++ List.replicate (N - ds.length) none
theorem startD_d {N : Nat} {ds : List D} {i : Nat} {s : S} (h : (startD N ds)[i]? = some (some s)) : ∃ d, s = .d d := by
  unfold startD at h
  by_cases hi : i < ds.length
  · rw [List.getElem?_append_left (by simpa using hi), List.getElem?_map] at h
    cases e : ds[i]? with
    | none => rw [e] at h; cases h
    | some d => rw [e] at h; cases h; exact ⟨d, rfl⟩
  · rw [List.getElem?_append_right (by simpa using hi)] at h
    have := List.mem_of_getElem? h
    simp at this
noncomputable def wpB (N : Nat) (pb : PSx) : PSp := fun ds P P2 => pb { nx := fun _ => P .non, rt := fun _ => P, bk := fun _ => False, ct := fun _ => False, ex := fun _ => P2 } (startD N ds)
theorem RAll.startR {C : Ctx} {G : Gp} {H H0 : Hp} {N : List Str} {vs : List V} {ds : List D} (r : RAll C G vs ds) : SRel C H0 G H (L2.start N vs) (startD N.length ds) := by
  have hl := r.length
  refine ⟨by unfold L2.start startD; simp [hl], fun i s h => ?_, fun i j s s' v v' n h1 h2 o1 o2 e1 e2 => ?_, fun i j P d s' v' a n h1 h2 e2 pa f => ?_⟩
  · unfold startD at h
    by_cases hi : i < ds.length
    · rw [List.getElem?_append_left (by simpa using hi), List.getElem?_map] at h
      cases e : ds[i]? with
      | none => rw [e] at h; cases h
      | some d =>
        rw [e] at h
        cases h
        obtain ⟨v, ev, rv⟩ := r.get e
        refine ⟨v, ?_, .d rv⟩
        unfold L2.start
        rw [List.getElem?_append_left (by simp; omega), List.getElem?_map, ev]
        rfl
    · rw [List.getElem?_append_right (by simpa using hi)] at h
      have := List.mem_of_getElem? h
      simp at this
  · unfold startD at h1
    by_cases hi : i < ds.length
    · rw [List.getElem?_append_left (by simpa using hi), List.getElem?_map] at h1
      cases e : ds[i]? with
      | none => rw [e] at h1; cases h1
      | some d =>
        rw [e] at h1
        cases h1
        cases o1
    · rw [List.getElem?_append_right (by simpa using hi)] at h1
      have := List.mem_of_getElem? h1
      simp at this
  · unfold startD at h1
    by_cases hi : i < ds.length
    · rw [List.getElem?_append_left (by simpa using hi), List.getElem?_map] at h1
      cases e : ds[i]? with
      | none => rw [e] at h1; cases h1
      | some d =>
        rw [e] at h1
        cases h1
    · rw [List.getElem?_append_right (by simpa using hi)] at h1
      have := List.mem_of_getElem? h1
      simp at this
section
variable {P : Program} {w : World} {K : PySem.W.Frag} {mg : Str → Option Value} {base : Heap}
noncomputable abbrev WF (E : XK) : WX := fun cls d _ H => E cls d H
theorem fn_mk {x qual : Str} {st : Stmt} {f : Addr} {fd : FuncData} {N ps : List Str} {k : Nat} {pb : PSx} (F : Fun K x qual st f fd) (S : FnScope N ps (defScope st))
    (hbody : ∀ (cdv : Value) (A : Around) (outer : List Env) (s : Shared) (H : Hp) (E : XK), Room k (A.deeper (PyProof.Rows.envOfC qual (defScope st) s.heap.objs.size f cdv)) →
      ∃ t, LSs (cxOf (L2.CX P w) P w K mg base N qual (defScope st) f cdv A outer s H E) (WE (WF E)) (defBody st) t pb) :
    FnOk P w K mg base (L2.CX P w) (k + 1) f fd ps (liftSp ⟨K, mg⟩ (wpB N.length pb) ps.length) := by
  refine F.okX S (fun vs H Q E h => h.1) (fun cdv A outer s H vs Q E hr h => ?_)
  obtain ⟨hl, G, ds, P1, P2, ok, r, p, q, x⟩ := h
  obtain ⟨t, h⟩ := hbody cdv A outer s H E hr
  refine ⟨t, h.py, h.le (P := { nx := fun _ => P1 .non, rt := fun _ => P1, bk := fun _ => False, ct := fun _ => False, ex := fun _ => P2 }) (G0 := G) (H0 := H) ?_ ⟨.refl ok, r.startR⟩ p⟩
  exact ⟨fun t p => q _ _ _ _ t.ext .non p, fun t r p => q _ _ _ _ t.ext r p, fun _ p => p.elim, fun _ p => p.elim, fun t => x.ext t.ext⟩
end
section
variable {X : Cx} {W : WX} {k : Nat} {f : Addr} {fd : FuncData} {ps : List Str} {x m : Str} {p pos apos : Pos} {e o : Expr} {es : List Expr} {ta : TE} {t : TA} {psp : PSp} {pa : PAx} {po : PX}
noncomputable def pCall (psp : PSp) (pa : PAx) : PX := fun δ P P2 => pa δ (fun ds => psp ds P P2) P2
theorem call_le {vs : List V} {ds : List D} {σ : St} {G : Gp} {H : Hp} {Q : VK} {P : D → Prop} {P2 : Exn → Prop} {n : Nat} (hn : vs.length = n) (ok : Ok G H) (r : RAll (cx X) G vs ds) (x : EOk (cx X) G H (WE W σ) P2) (p : psp ds P P2)
    (q : ∀ v d G' H', Ext G H G' H' → R (cx X) G' v d → P d → Q v H') : liftSp (cx X) psp n vs H Q (WE W σ) := ⟨hn, G, ds, P, P2, ok, r, p, q, x⟩
structure LAn (X : Cx) (E : St → XK) (es : List Expr) (ta : TA) (pa : PAx) (n : Nat) : Prop where
  py : PA X es ta
  le : ∀ {δ : Dl} {σ : St} {G : Gp} {H H0 : Hp} {Q : List V → Hp → Prop} {P : List D → Prop} {P2 : Exn → Prop}, Ok G H → SRel (cx X) H0 G H σ δ → EOk (cx X) G H (E σ) P2 → pa δ P P2 →
    (∀ vs ds G' H', vs.length = n → Ext G H G' H' → RAll (cx X) G' vs ds → P ds → Q vs H') → ta σ H Q
theorem lan_nil {E : L2.St → XK} : LAn X E [] tNil pNil 0 := ⟨pa_nil, fun k s x p q => q _ _ _ _ rfl (.refl k) .nil p⟩
theorem lan_cons {E : L2.St → XK} {te : TE} {pe : PX} {n : Nat} (he : LX X E e te pe) (ha : LAn X E es t pa n) (hs : starEach (e :: es) X.env = (false, eval e X.env) :: starEach es X.env := by rfl) : LAn X E (e :: es) (tCons te t) (pCons pe pa) (n + 1) :=
  ⟨pa_cons he.py ha.py hs, fun k s x p q => he.le k s x p fun v d G1 H1 y1 r1 p1 => ha.le y1.ok (s.ext y1) (x.ext y1) p1 fun vs ds G2 H2 hn y2 r2 p2 =>
    q _ _ G2 H2 (by rw [List.length_cons, hn]) (y1.trans y2) (.cons (r1.mono y2.g) r2) p2⟩
theorem lx_call (tk : Takes X W) (F : FnOk X.prog X.w X.K X.mg X.base (L2.CX X.prog X.w) k f fd ps (liftSp (cx X) psp ps.length)) (hr : Room k X.A) (hg : Gl X x) (hm : X.mg x = some (.ref f)) (hk : PySem.W.keepIn X.K (.ref f) = true) (hb : Binds X.K fd ps [])
    (ha : LAn X (WE W) (e :: es) t pa ps.length) (hdb : (x == ("__debug__" : Str)) = false := by decide) (he : starEach (e :: es) X.env = (false, eval e X.env) :: starEach es X.env := by rfl) (hpl : (backTo pos (starEach es X.env)).any (·.1) = false := by rfl) :
    LX X (WE W) (.Call (.Name x p) (e :: es) [] pos) (tCallS (liftSp (cx X) psp ps.length) (WE W) t) (pCall psp pa) :=
  ⟨pe_callS F hr hg hm hk hb (fun σ => passAt tk σ) ha.py hdb he hpl, fun k s x p q => ha.le k s x p fun vs ds G1 H1 hn y1 r1 p1 =>
    call_le hn y1.ok r1 (x.ext y1) p1 fun v d G' H' y r pd => q v d G' H' (y1.trans y) r pd⟩
noncomputable def pFld (tbl : List (Nat × Nat)) (po : PX) : PX := fun δ P P2 => po δ (fun x => match x with
  | .obj c ds => (match tbl.lookup c with | some j => (match ds[j]? with | some d => P d | none => False) | none => False)
  | _ => False) P2
theorem lookup_zip : ∀ {ns : List Str} {vs : List V} {j : Nat} {f : Str} {v : V}, ns.Nodup → ns[j]? = some f → vs[j]? = some v → (ns.zip vs).lookup f = some v
  | [], _, j, _, _, _, h, _ => by simp at h
  | _ :: _, [], j, _, _, _, _, h => by simp at h
  | n :: ns, w :: vs, 0, f, v, _, h1, h2 => by
    have e1 : n = f := Option.some.inj h1
    have e2 : w = v := Option.some.inj h2
    subst e1 e2
    simp [List.lookup]
  | n :: ns, w :: vs, j + 1, f, v, nd, h1, h2 => by
    have h1' : ns[j]? = some f := by simpa using h1
    have ne : f ≠ n := fun e => (List.nodup_cons.mp nd).1 (by rw [← e]; exact List.mem_of_getElem? h1')
    have e : (f == n) = false := by simpa using ne
    show ((n, w) :: ns.zip vs).lookup f = some v
    unfold List.lookup
    rw [e]
    exact lookup_zip (List.nodup_cons.mp nd).2 h1' (by simpa using h2)
noncomputable def FldT (K : PySem.W.Frag) (mg : Str → Option Value) (fn : Str) (tbl : List (Nat × Nat)) : Prop :=
  ∀ c j, tbl.lookup c = some j → (cfs c).Nodup ∧ (cfs c)[j]? = some fn ∧ ∀ A, mg (cname c) = some (.ref A) → Cls K A ∧ NoAttr K A fn
theorem lx_fld {E : L2.St → XK} {fn : Str} {tbl : List (Nat × Nat)} (T : FldT X.K X.mg fn tbl) (ho : LX X E o ta po) (hb : attributeBase o fn X.env (eval o X.env) = eval o X.env := by rfl) :
    LX X E (.Attribute o fn pos) (tFld X.K ta fn) (pFld tbl po) := by
  refine ⟨by first | exact pe_fld ho.py hb | exact pe_fld ho.py, fun {δ σ G H H0 Q P P2} k s x p q => ho.le k s x p fun v d G' H' y r p' => ?_⟩
  split at p'
  · rename_i c ds
    split at p'
    · rename_i j ej
      split at p'
      · rename_i d ed
        cases r with
        | obj hm hg rv hl =>
          obtain ⟨nd, hf, hc⟩ := T c j ej
          obtain ⟨cl, na⟩ := hc _ hm
          obtain ⟨v, ev, rd⟩ := rv.get ed
          exact ⟨_, _, _, _, v, rfl, y.ok.fz hg, cl, na, lookup_zip nd hf ev, q v d G' H' y rd p'⟩
      · exact p'.elim
    · exact p'.elim
  · exact p'.elim
noncomputable def tMethS (C : Addr) (m : Str) (sp : Sp) (E : St → XK) (ta : TE) (t : TA) : TE := fun σ H Q => ta σ H fun x H1 => ∃ a dx fs, x = .ref a ∧ H1 a = some (.ins C dx fs) ∧ fs.lookup m = none ∧
  t σ H1 fun vs H2 => sp (x :: vs) H2 Q (E σ)
theorem pe_methS {C : Addr} {sp : Sp} {CX : CXT} {E : L2.St → XK} {pl : Sem Bool} (he : PE X o ta) (c : Cls X.K C) (hm : Meth X.K C m f) (F : FnOk X.prog X.w X.K X.mg X.base CX k f fd ps sp) (hr : Room k X.A) (hb : Binds X.K fd ps []) (hx : ∀ σ, PassesAt CX X σ (E σ)) (ha : PA X (e :: es) t)
    (hst : starEach (e :: es) X.env = (false, eval e X.env) :: starEach es X.env := by rfl) (hpl : (backTo pos (starEach es X.env)).any (·.1) = false := by rfl)
    (ht : eval (.Call (.Attribute o m apos) (e :: es) [] pos) X.env = (do
      let ov ← eval o X.env
      standAt apos.atName
      let (f, first) ← holding [ov] (getMethod ov m pl)
      callWith pos f first (backTo pos (starEach (e :: es) X.env)) (backToKw pos (keywordEach [] X.env))) := by rfl) :
    PE X (.Call (.Attribute o m apos) (e :: es) [] pos) (tMethS C m sp E ta t) := by
  refine ⟨fun pins s σ H Q I h => ?_⟩
  refine PySem.W.methodCall_KW (pl := pl) (thn (he.run pins s σ H _ I h) fun u s1 ⟨x, H1, I1, rx, a, dx, fs, ex, ea, l, q⟩ => ?_) ht
  subst ex
  obtain rfl : u = Value.ref a := rx
  refine getmeth_ok I1 ea c hm l ?_
  refine PySem.W.callWith_K (first := [.ref a]) (h₀ := X.base) I.ok.mod.kin hm.kp (thn (ha.run pos pins s1 σ H1 _ I1 q) fun us s2 ⟨vs, H2, I2, r, q2⟩ => ⟨I2.kIn, ?_⟩) hst hpl
  exact run_fnS (us := .ref a :: us) (vs := .ref a :: vs) F hr hb (hx σ) I2 (.cons rfl r) q2
noncomputable def pMeth (c : Nat) (psp : PSp) (po : PX) (pa : PAx) : PX := fun δ P P2 => po δ (fun x => match x with
  | .obj c' ds0 => c' = c ∧ pa δ (fun ds => psp (.obj c' ds0 :: ds) P P2) P2
  | _ => False) P2
theorem lookup_zip_no {f : Str} : ∀ {ns : List Str} {vs : List V}, f ∉ ns → (ns.zip vs).lookup f = none
  | [], _, _ => rfl
  | _ :: _, [], _ => rfl
  | n :: ns, w :: vs, h => by
    have ne : f ≠ n := fun e => h (by rw [e]; exact List.mem_cons_self)
    have e : (f == n) = false := by simpa using ne
    show ((n, w) :: ns.zip vs).lookup f = none
    unfold List.lookup
    rw [e]
    exact lookup_zip_no fun z => h (List.mem_cons_of_mem _ z)
structure MetT (K : PySem.W.Frag) (mg : Str → Option Value) (c : Nat) (A : Addr) (m : Str) (f : Addr) : Prop where
  mg : mg (cname c) = some (.ref A)
  cl : Cls K A
  met : Meth K A m f
  no : m ∉ cfs c
theorem meth_le {c : Nat} {A : Addr} {n : Nat} (T : MetT X.K X.mg c A m f) (ho : LX X (WE W) o ta po) (ha : LAn X (WE W) es t pa n) {δ : Dl} {σ : St} {G : Gp} {H H0 : Hp} {Q : VK} {P : D → Prop} {P2 : Exn → Prop}
    (k : Ok G H) (s : SRel (cx X) H0 G H σ δ) (x : EOk (cx X) G H (WE W σ) P2) (p : pMeth c psp po pa δ P P2) (q : ∀ v d G' H', Ext G H G' H' → R (cx X) G' v d → P d → Q v H') : tMethS A m (liftSp (cx X) psp (n + 1)) (WE W) ta t σ H Q := by
  refine ho.le k s x p fun v d G1 H1 y r p' => ?_
  split at p'
  · rename_i c' ds0
    obtain ⟨rfl, p'⟩ := p'
    cases r with
    | @obj a A' dx vs _ _ hm hg rv hl =>
      have r0 : R (cx X) G1 (.ref a) (.obj c' ds0) := .obj hm hg rv hl
      have eA : A' = A := by
        have := hm.symm.trans T.mg
        cases this
        rfl
      subst eA
      refine ⟨_, _, _, rfl, y.ok.fz hg, lookup_zip_no T.no, ?_⟩
      refine ha.le y.ok (s.ext y) (x.ext y) p' fun vs ds G2 H2 hn y2 r2 p2 => ?_
      exact call_le (by rw [List.length_cons, hn]) y2.ok (.cons (r0.mono y2.g) r2) ((x.ext y).ext y2) p2 fun v d G' H' y3 r pd => q v d G' H' ((y.trans y2).trans y3) r pd
  · exact p'.elim
theorem lx_meth {c : Nat} {A : Addr} {n : Nat} {pl : Sem Bool} (tk : Takes X W) (T : MetT X.K X.mg c A m f) (F : FnOk X.prog X.w X.K X.mg X.base (L2.CX X.prog X.w) k f fd ps (liftSp (cx X) psp (n + 1))) (hr : Room k X.A) (hb : Binds X.K fd ps []) (ho : LX X (WE W) o ta po) (ha : LAn X (WE W) (e :: es) t pa n)
    (hst : starEach (e :: es) X.env = (false, eval e X.env) :: starEach es X.env := by rfl) (hpl : (backTo pos (starEach es X.env)).any (·.1) = false := by rfl)
    (ht : eval (.Call (.Attribute o m apos) (e :: es) [] pos) X.env = (do
      let ov ← eval o X.env
      standAt apos.atName
      let (f, first) ← holding [ov] (getMethod ov m pl)
      callWith pos f first (backTo pos (starEach (e :: es) X.env)) (backToKw pos (keywordEach [] X.env))) := by rfl) :
    LX X (WE W) (.Call (.Attribute o m apos) (e :: es) [] pos) (tMethS A m (liftSp (cx X) psp (n + 1)) (WE W) ta t) (pMeth c psp po pa) :=
  ⟨pe_methS ho.py T.cl T.met F hr hb (fun σ => passAt tk σ) ha.py hst hpl ht, fun k s x p q => meth_le T ho ha k s x p q⟩
noncomputable def pProp (c : Nat) (psp : PSp) (po : PX) : PX := fun δ P P2 => po δ (fun x => match x with
  | .obj c' ds0 => c' = c ∧ psp [.obj c' ds0] P (fun _ => False)
  | _ => False) P2
structure PrpT (K : PySem.W.Frag) (mg : Str → Option Value) (c : Nat) (A : Addr) (m : Str) (pa g : Addr) : Prop where
  mg : mg (cname c) = some (.ref A)
  cl : Cls K A
  prop : PropOf K A m pa g
theorem lx_prop {c : Nat} {A pp : Addr} {fn : Str} {E : L2.St → XK} (T : PrpT X.K X.mg c A fn pp f) (F : FnOk X.prog X.w X.K X.mg X.base (L2.CX X.prog X.w) k f fd ps (liftSp (cx X) psp 1)) (hr : Room (k + 1) X.A) (hb : Binds X.K fd ps []) (ho : LX X E o ta po)
    (hab : attributeBase o fn X.env (eval o X.env) = eval o X.env := by rfl) :
    LX X E (.Attribute o fn pos) (tProp A (liftSp (cx X) psp 1) [] E0 ta) (pProp c psp po) := by
  refine ⟨pe_prop ho.py T.cl T.prop F hr hb .nil (by exact passL) hab, fun {δ σ G H H0 Q P P2} k s x p q => ho.le k s x p fun v d G1 H1 y r p' => ?_⟩
  split at p'
  · rename_i c' ds0
    obtain ⟨rfl, p'⟩ := p'
    cases r with
    | @obj a A' dx vs _ _ hm hg rv hl =>
      have r0 : R (cx X) G1 (.ref a) (.obj c' ds0) := .obj hm hg rv hl
      have eA : A' = A := by
        have := hm.symm.trans T.mg
        cases this
        rfl
      subst eA
      exact ⟨_, _, _, rfl, y.ok.fz hg, rfl, G1, _, P, fun _ => False, y.ok, .cons r0 .nil, p', fun v d G' H' y2 r2 p2 => q v d G' H' (y.trans y2) r2 p2, fun _ _ _ _ _ _ _ z => z⟩
  · exact p'.elim
end
end Pu
set_option Elab.async false
set_option linter.all false
set_option maxRecDepth 100000
set_option maxHeartbeats 2000000
set_option autoImplicit false
namespace Pu
open PySem PySem.Spec L2
noncomputable abbrev PSpI := List D → (List D → Prop) → (Exn → Prop) → Prop
noncomputable def liftInit (C : Ctx) (c : Nat) (p : PSpI) (n : Nat) : Sp := fun vs H Q E => vs.length = n ∧ ∃ (G : Gp) (H1 : Hp) (x dx A : Addr) (vs' : List V) (ds : List D) (P : List D → Prop) (P2 : Exn → Prop),
  vs = .ref x :: vs' ∧ H = upd (upd H1 dx (.own x)) x (.ins A dx []) ∧ H1 x = none ∧ H1 dx = none ∧ dx ≠ x ∧ C.mg (cname c) = some (.ref A) ∧ Ok G H1 ∧ RAll C G vs' ds ∧ p ds P P2 ∧
  (∀ vsF dsF dx' G' H', Ext G H1 G' H' → H' x = some (.ins A dx' (mkF c vsF)) → G' x = none → RAll C G' vsF dsF → dsF.length = (cfs c).length → P dsF → Q .non H') ∧ EOk C G H1 E P2
noncomputable def startI (a : Addr) (c : Nat) (N : Nat) (ds : List D) : Dl := some (.slf a c []) :: startD (N - 1) ds
noncomputable def endI (a : Addr) (c : Nat) (P : List D → Prop) : Dl → Prop := fun (δ : List (Option S)) => match δ[(0 : Nat)]? with | some (some (.slf a' c' fs)) => a' = a ∧ c' = c ∧ fs.length = (cfs c).length ∧ P fs | _ => False
noncomputable def wpI (c N : Nat) (pb : PSx) : PSpI := fun ds P P2 => ∀ a : Addr, pb { nx := endI a c P, rt := fun _ _ => False, bk := fun _ => False, ct := fun _ => False, ex := fun _ => P2 } (startI a c N ds)
section
variable {P : Program} {w : World} {K : PySem.W.Frag} {mg : Str → Option Value} {base : Heap}
theorem startI_rel {C : Ctx} {G : Gp} {H1 H : Hp} {c N : Nat} {Ns : List Str} {x dx A : Addr} {vs : List V} {ds : List D} (hN : Ns.length = N) (hN0 : 0 < N) (r : RAll C G vs ds) (hm : C.mg (cname c) = some (.ref A)) (hx : H x = some (.ins A dx [])) (gx : G x = none) (nx : H1 x = none) :
    SRel C H1 G H (L2.start Ns (.ref x :: vs)) (startI x c N ds) := by
  obtain ⟨Ns', hNs⟩ : ∃ (Ns' : List Str), Ns'.length = N - 1 := ⟨Ns.tail, by rw [List.length_tail, hN]⟩
  have e1 : L2.start Ns (.ref x :: vs) = some (.ref x) :: L2.start Ns' vs := by
    unfold L2.start
    rw [List.map_cons, List.cons_append, List.length_cons, hN, hNs]
    have : N - (vs.length + 1) = N - 1 - vs.length := by omega
    rw [this]
  have e2 : startD (N - 1) ds = startD Ns'.length ds := by rw [hNs]
  unfold startI
  rw [e1, e2]
  have b : SRel C H1 G H (L2.start Ns' vs) (startD Ns'.length ds) := r.startR
  have noOwn : ∀ (i : Nat) (s : S), (startD Ns'.length ds)[i]? = some (some s) → s.isOwn = false := fun i s h => by
    unfold startD at h
    by_cases hi : i < ds.length
    · rw [List.getElem?_append_left (by simpa using hi), List.getElem?_map] at h
      cases e : ds[i]? with
      | none => rw [e] at h; cases h
      | some d => rw [e] at h; cases h; rfl
    · rw [List.getElem?_append_right (by simpa using hi)] at h
      have := List.mem_of_getElem? h
      simp at this
  refine ⟨by rw [List.length_cons, List.length_cons, b.len], fun i s h => ?_, fun i j s s' v v' n h1 h2 o1 o2 _ _ => ?_, fun i j P d s' v' a n h1 h2 e2 pa f => ?_⟩
  · cases i with
    | zero =>
      have : some (S.slf x c []) = some s := Option.some.inj h
      cases this
      exact ⟨_, rfl, .slf (vs := []) hm (by rw [hx]; unfold mkF; rw [List.zip_nil_right]) gx nx .nil (Nat.zero_le _)⟩
    | succ i => exact b.at_ i s (by simpa using h)
  · exfalso
    cases i with
    | zero =>
      cases j with
      | zero => exact n rfl
      | succ j => rw [noOwn j s' (by simpa using h2)] at o2; cases o2
    | succ i => rw [noOwn i s (by simpa using h1)] at o1; cases o1
  · cases i with
    | zero => cases Option.some.inj h1
    | succ i => obtain ⟨_, z⟩ := startD_d (i := i) (by simpa using h1); cases z
theorem init_mk {x qual : Str} {st : Stmt} {f : Addr} {fd : FuncData} {N ps : List Str} {k c : Nat} {pb : PSx} (F : Fun K x qual st f fd) (S : FnScope N ps (defScope st)) (hN0 : 0 < N.length)
    (hbody : ∀ (cdv : Value) (A : Around) (outer : List Env) (s : Shared) (H : Hp) (E : XK), Room k (A.deeper (PyProof.Rows.envOfC qual (defScope st) s.heap.objs.size f cdv)) →
      ∃ t, LSs (cxOf (L2.CX P w) P w K mg base N qual (defScope st) f cdv A outer s H E) (WE (WF E)) (defBody st) t pb) :
    FnOk P w K mg base (L2.CX P w) (k + 1) f fd ps (liftInit ⟨K, mg⟩ c (wpI c N.length pb) ps.length) := by
  refine F.okX S (fun vs H Q E h => h.1) (fun cdv A outer s H vs Q E hr h => ?_)
  obtain ⟨hl, G, H1, x, dx, A', vs', ds, P1, P2, rfl, rfl, nx, ndx, ne, hm, ok, r, p, q, xx⟩ := h
  obtain ⟨t, h⟩ := hbody cdv A outer s _ E hr
  have x1 : Ext G H1 G (upd H1 dx (.own x)) := .new ok ndx
  have x2 : Ext G H1 G (upd (upd H1 dx (.own x)) x (.ins A' dx [])) := x1.trans (.new x1.ok (by rw [upd_ne (Ne.symm ne)]; exact nx))
  refine ⟨t, h.py, h.le (P := { nx := endI x c P1, rt := fun _ _ => False, bk := fun _ => False, ct := fun _ => False, ex := fun _ => P2 }) (G0 := G) (H0 := H1) ?_
    ⟨x2, startI_rel rfl hN0 r hm upd_same (ok.none_of nx) nx⟩ (p x)⟩
  refine ⟨fun {σ δ G' H'} t p => ?_, fun _ _ p => p.elim, fun _ p => p.elim, fun _ p => p.elim, fun t => xx.ext t.ext⟩
  have p' : endI x c P1 δ := p
  unfold endI at p'
  split at p'
  · rename_i a' c' fs e
    obtain ⟨rfl, rfl, hlen, p'⟩ := p'
    obtain ⟨v, ev, r⟩ := t.sr.at_ 0 _ e
    cases r with
    | @slf _ A2 dx2 _ _ _ hm2 hx gx _ rv _ =>
      have eA : A2 = A' := by
        have z := hm2.symm.trans hm
        cases z
        rfl
      subst eA
      exact q _ fs _ _ _ t.ext hx gx rv hlen p'
  · exact p'.elim

end
section
variable {X : Cx} {W : WX} {k : Nat} {f : Addr} {fd : FuncData} {ps : List Str} {x : Str} {p pos apos : Pos} {e o : Expr} {es : List Expr} {ta : TE} {t : TA} {pa : PAx}
noncomputable def tMakeS (C : Addr) (sp : Sp) (E : St → XK) (t : TA) : TE := fun σ H Q => t σ H fun vs H1 => ∀ x dx, H1 x = none → H1 dx = none → dx ≠ x →
  sp (.ref x :: vs) (upd (upd H1 dx (.own x)) x (.ins C dx [])) (fun v H2 => v = .non ∧ Q (.ref x) H2) (E σ)
theorem run_makeS {CX : CXT} {C : Addr} {sp : Sp} {E : L2.St → XK} {pins : List (Addr × Obj)} {σ : St} {H : Hp} {s : Shared} {Q : VK} {us : List Value} {vs : List V} (M : Mk X.K C f) (F : FnOk X.prog X.w X.K X.mg X.base CX k f fd ps sp) (hr : Room (k + 1) X.A) (hb : Binds X.K fd ps [])
    (hx : ∀ σ, PassesAt CX X σ (E σ)) (I : Inv X pins σ H s) (r : Vals vs us)
    (h : ∀ x dx, H x = none → H dx = none → dx ≠ x → sp (.ref x :: vs) (upd (upd H dx (.own x)) x (.ins C dx [])) (fun v H2 => v = .non ∧ Q (.ref x) H2) (E σ)) :
    wpAny (model X.prog X.w) X.A (call (.ref C) us) (EP X pins σ Q) X.xe s := by
  have hq := h (s.heap.objs.size + 1) s.heap.objs.size (I.hok.fresh (Nat.le_succ _)) (I.hok.fresh (Nat.le_refl _)) (Nat.ne_of_lt (Nat.lt_succ_self _))
  have I2 := Inv.made (C := C) I
  have r2 : Vals (V.ref (s.heap.objs.size + 1) :: vs) (Value.ref (s.heap.objs.size + 1) :: us) := .cons rfl r
  have hl : (Value.ref (s.heap.objs.size + 1) :: us ++ []).length = ps.length := by
    have e := r2.length
    rw [F.len _ _ _ _ hq] at e
    rw [List.append_nil]
    exact e.symm
  have b := hb _ (Value.ref (s.heap.objs.size + 1) :: us) I2.kIn hl
  rw [List.append_nil] at b
  refine wpAny_call (make_map (f := f) I.kIn M.makes M.init (beq_iff_eq.mp M.fn) (codeAny_mono (F.run _ X.stack _ _ ⟨Value.ref (s.heap.objs.size + 1) :: us, []⟩ (Value.ref (s.heap.objs.size + 1) :: us) _ _ (E σ) (hr.make C us [])
    (I2.env0.make C us []) b r2 hq) fun r s' hq' => ?_))
  cases r with
  | error e => exact hx σ pins _ _ e s' I2 hq'
  | ok fl =>
    cases fl with
    | ret u =>
      obtain ⟨v, H', I3, rv, ev, q3⟩ := I2.after hq'
      subst ev
      exact ⟨rv, ⟨V.ref (s.heap.objs.size + 1), H', I3, rfl, q3⟩⟩
    | next => exact False.elim hq'
    | brk => exact False.elim hq'
    | cont => exact False.elim hq'
theorem pe_makeS {CX : CXT} {C : Addr} {sp : Sp} {E : L2.St → XK} (M : Mk X.K C f) (F : FnOk X.prog X.w X.K X.mg X.base CX k f fd ps sp) (hr : Room (k + 1) X.A) (hg : Gl X x) (hm : X.mg x = some (.ref C)) (hb : Binds X.K fd ps []) (hx : ∀ σ, PassesAt CX X σ (E σ))
    (ha : PA X (e :: es) t) (hdb : (x == ("__debug__" : Str)) = false := by decide) (he : starEach (e :: es) X.env = (false, eval e X.env) :: starEach es X.env := by rfl) (hpl : (backTo pos (starEach es X.env)).any (·.1) = false := by rfl) :
    PE X (.Call (.Name x p) (e :: es) [] pos) (tMakeS C sp E t) := by
  refine ⟨fun pins s σ H Q I h => ?_⟩
  refine wpAny_Call_Name_kw (ld_glob I hg hm ?_ hdb)
  refine PySem.W.callWith_K (h₀ := X.base) I.ok.mod.kin M.kp (thn (ha.run pos pins s σ H _ I h) fun us s1 ⟨vs, H1, I1, r, q⟩ => ⟨I1.kIn, ?_⟩) he hpl
  exact run_makeS M F hr hb hx I1 r q
noncomputable def pMake (c : Nat) (pi : PSpI) (pa : PAx) : PX := fun δ P P2 => pa δ (fun ds => pi ds (fun fs => P (.obj c fs)) P2) P2
theorem lx_make {c n : Nat} {C : Addr} {pi : PSpI} (tk : Takes X W) (M : Mk X.K C f) (hm : X.mg (cname c) = some (.ref C)) (F : FnOk X.prog X.w X.K X.mg X.base (L2.CX X.prog X.w) k f fd ps (liftInit (cx X) c pi (n + 1))) (hr : Room (k + 1) X.A) (hg : Gl X (cname c)) (hb : Binds X.K fd ps [])
    (ha : LAn X (WE W) (e :: es) t pa n) (hdb : (cname c == ("__debug__" : Str)) = false := by decide) (he : starEach (e :: es) X.env = (false, eval e X.env) :: starEach es X.env := by rfl) (hpl : (backTo pos (starEach es X.env)).any (·.1) = false := by rfl) :
    LX X (WE W) (.Call (.Name (cname c) p) (e :: es) [] pos) (tMakeS C (liftInit (cx X) c pi (n + 1)) (WE W) t) (pMake c pi pa) := by
  refine ⟨pe_makeS M F hr hg hm hb (fun σ => passAt tk σ) ha.py hdb he hpl, fun {δ σ G H H0 Q P P2} k s x p q => ha.le k s x p fun vs ds G1 H1 hn y r p1 => ?_⟩
  intro a dx na nd ne
  refine ⟨by rw [List.length_cons, hn], G1, H1, a, dx, C, vs, ds, _, P2, rfl, rfl, na, nd, ne, hm, y.ok, r, p1, fun vsF dsF dx' G' H' y2 hx gx rF hl pF => ⟨rfl, ?_⟩, x.ext y⟩
  refine q (.ref a) (.obj c dsF) (updG G' a (.fz (.ins C dx' (mkF c vsF)))) H' ((y.trans y2).share (y.back na) hx gx) (.obj hm updG_same (rF.mono (updG_keep gx)) hl) pF
theorem putF_zip : ∀ {ns : List Str} {vs : List V} {f : Str} {v : V}, ns.Nodup → ns[vs.length]? = some f → putF f v (ns.zip vs) = ns.zip (vs ++ [v])
  | [], _, _, _, _, h => by simp at h
  | n :: ns, [], f, v, _, h => by
    have e : n = f := by simpa using h
    subst e
    show putF n v [] = (n, v) :: ns.zip []
    rw [List.zip_nil_right]
    rfl
  | n :: ns, w :: vs, f, v, nd, h => by
    have h' : ns[vs.length]? = some f := by simpa using h
    have ne : ¬ n = f := fun e => (List.nodup_cons.mp nd).1 (by rw [e]; exact List.mem_of_getElem? h')
    show putF f v ((n, w) :: ns.zip vs) = (n, w) :: ns.zip (vs ++ [v])
    show (if n = f then (n, v) :: ns.zip vs else (n, w) :: putF f v (ns.zip vs)) = _
    rw [if_neg ne, putF_zip (List.nodup_cons.mp nd).2 h']
noncomputable def pSetF (i c j : Nat) (pe : PX) : PSx := fun P δ => pe δ (fun d => match δ[i]? with
  | some (some (.slf a c' ds)) => c' = c ∧ ds.length = j ∧ P.nx (δ.set i (some (.slf a c (ds ++ [d]))))
  | _ => False) (P.ex δ)
theorem SRel.writeS {C : Ctx} {G : Gp} {H H0 : Hp} {σ : St} {δ : Dl} {i : Nat} {a : Addr} {c : Nat} {ds ds' : List D} {vs' : List V} {A dx : Addr} (s : SRel C H0 G H σ δ) (e : δ[i]? = some (some (.slf a c ds))) (hm : C.mg (cname c) = some (.ref A)) (r' : RAll C G vs' ds') (hl' : ds'.length ≤ (cfs c).length) :
    SRel C H0 G (upd H a (.ins A dx (mkF c vs'))) σ (δ.set i (some (.slf a c ds'))) := by
  obtain ⟨v, ev, r⟩ := s.at_ i _ e
  cases r with
  | slf hm2 h g n r l =>
  have hl : i < δ.length := (List.getElem?_eq_some_iff.mp e).1
  have key : ∀ (j : Nat) (u : S), (δ.set i (some (.slf a c ds')))[j]? = some (some u) → (j = i ∧ u = .slf a c ds') ∨ (j ≠ i ∧ δ[j]? = some (some u)) := fun j u h => by
    by_cases z : i = j
    · subst z
      rw [List.getElem?_set_self hl] at h
      exact .inl ⟨rfl, (Option.some.inj (Option.some.inj h)).symm⟩
    · rw [List.getElem?_set_ne z] at h
      exact .inr ⟨fun y => z y.symm, h⟩
  refine ⟨by rw [List.length_set, s.len], fun j u hu => ?_, fun j k u u' v1 v2 nn h1 h2 o1 o2 e1 e2 => ?_, fun j k P d u v2 b nn h1 h2 e2 pa f => ?_⟩
  · rcases key j u hu with ⟨rfl, rfl⟩ | ⟨z, hu⟩
    · exact ⟨_, ev, .slf hm upd_same g n r' hl'⟩
    · obtain ⟨v, e2, q⟩ := s.at_ j u hu
      refine ⟨v, e2, ?_⟩
      cases q with
      | d q => exact .d q
      | @own b ob ys es hob hb gb nb rb =>
        have ne : b ≠ a := fun y => s.apart j i _ _ _ _ z hu e rfl rfl e2 ev (by rw [y])
        exact .own hob (by rw [upd_ne ne]; exact hb) gb nb rb
      | @slf b A2 dx2 vs2 c2 es mb hb gb nb rb lb =>
        have ne : b ≠ a := fun y => s.apart j i _ _ _ _ z hu e rfl rfl e2 ev (by rw [y])
        exact .slf mb (by rw [upd_ne ne]; exact hb) gb nb rb lb
      | exc q => exact .exc q
      | @tree _ _ TP TG t1 t2 q =>
        have np : ∀ b, TP b → b ≠ a := fun b pb y => s.apT j i _ _ _ _ b z hu e ev pb (by rw [y]; rfl)
        refine .tree (fun b g eg => ?_) (fun b pb => ?_) q
        · rcases t1 b g eg with ⟨pb, xs2, rfl, hx2⟩ | t3
          · exact .inl ⟨pb, xs2, rfl, by rw [upd_ne (np b pb)]; exact hx2⟩
          · exact .inr t3
        · obtain ⟨n1, n2, xs2, n3⟩ := t2 b pb
          exact ⟨n1, n2, xs2, by rw [upd_ne (np b pb)]; exact n3⟩
  · have k1 : ∃ s1, δ[j]? = some (some s1) ∧ s1.isOwn = true := by
      rcases key j u h1 with ⟨rfl, _⟩ | ⟨_, h1⟩
      · exact ⟨_, e, rfl⟩
      · exact ⟨_, h1, o1⟩
    have k2 : ∃ s1, δ[k]? = some (some s1) ∧ s1.isOwn = true := by
      rcases key k u' h2 with ⟨rfl, _⟩ | ⟨_, h2⟩
      · exact ⟨_, e, rfl⟩
      · exact ⟨_, h2, o2⟩
    obtain ⟨s1, g1, w1⟩ := k1
    obtain ⟨s2, g2, w2⟩ := k2
    exact s.apart j k s1 s2 v1 v2 nn g1 g2 w1 w2 e1 e2
  · have kj : δ[j]? = some (some (.tree P d)) := by
      rcases key j _ h1 with ⟨_, z⟩ | ⟨_, h1⟩
      · cases z
      · exact h1
    rcases key k u h2 with ⟨rfl, rfl⟩ | ⟨_, h2⟩
    · exact s.apT j _ P d _ v2 b nn kj e e2 pa f
    · exact s.apT j k P d u v2 b nn kj h2 e2 pa f
theorem ls_setF {E : L2.St → XK} (i c j : Nat) {sn fn : Str} {ap p1 : Pos} {te : TE} {pe : PX} (he : LX X E e te pe) (T : ∀ A, X.mg (cname c) = some (.ref A) → Cls X.K A ∧ NoAttr X.K A fn) (hf : (cfs c)[j]? = some fn) (hnd : (cfs c).Nodup) (hlen : (cfs c).length ≤ 900)
    (hN : X.N[i]? = some sn := by rfl) (hv : Vis X.env.scope sn := by first | exact Or.inl rfl | exact Or.inr (Or.inl rfl) | exact Or.inr (Or.inr rfl)) (hd : (sn == ("__debug__" : Str)) = false := by decide) (hcd : (sn == ("__classdict__" : Str)) = false := by decide)
    (hs : swapsWith e (some (.Attribute (.Name sn p1) fn ap)) pos.line X.env = pure false := by rfl) : LS X E (.Assign [.Attribute (.Name sn p1) fn ap] e pos) (sFld X.K (tVar i) te fn) (pSetF i c j pe) := by
  refine ⟨ps_fld (pe_var hN hv hd hcd) he.py hs, fun {G0 H0 Dn P δ σ G H} en t p => he.le t.ok t.sr (en.ex t) p fun v d G' H' y r q => ?_⟩
  split at q
  · rename_i a c' ds ed
    obtain ⟨rfl, rfl, q⟩ := q
    have t1 := t.step y
    obtain ⟨v0, ev, r0⟩ := t1.sr.at_ i _ ed
    cases r0 with
    | @slf _ A dx vs _ _ hm hx gx nx rv hl =>
      obtain ⟨cl, na⟩ := T A hm
      have hlv : vs.length = ds.length := rv.length
      have hj : ds.length < (cfs c').length := (List.getElem?_eq_some_iff.mp hf).1
      refine ⟨_, ev, a, A, dx, mkF c' vs, rfl, hx, cl, na, ?_, ?_⟩
      · unfold mkF
        rw [List.length_zip]
        omega
      · have e1 : putF fn v (mkF c' vs) = mkF c' (vs ++ [v]) := putF_zip hnd (by rw [hlv]; exact hf)
        rw [e1]
        exact en.nx ⟨t1.ext.write nx gx, t1.sr.writeS ed hm (rv.append (.one r)) (by rw [List.length_append]; show ds.length + 1 ≤ _; omega)⟩ q
  · exact q.elim

noncomputable def pFldS (i c j : Nat) : PX := fun δ P _ => match δ[i]? with
  | some (some (.slf _ c' ds)) => c' = c ∧ (match ds[j]? with | some d => P d | none => False)
  | _ => False
section
variable {E : L2.St → XK} {sn : Str} {p1 : Pos} {te : TE} {pe : PX}
noncomputable def tyOwn : V → Prop := fun _ => True
theorem tyV_lst {K : PySem.W.Frag} {H : Hp} {a : Addr} {xs : List V} (h : H a = some (.lst xs)) : tyV K "list" (.ref a) H := .inl ⟨rfl, _, SqL.of h⟩
noncomputable def pApp (i : Nat) (pe : PX) : PSx := fun P δ => match δ[i]? with
  | some (some (.own oa ds)) => pe δ (fun d => ds.length < szl ∧ P.nx (δ.set i (some (.own oa (ds ++ [d]))))) (P.ex δ)
  | _ => False
theorem ls_app (i : Nat) (he : LX X E e te pe) (hN : X.N[i]? = some sn := by rfl) (hv : Vis X.env.scope sn := by first | exact Or.inl rfl | exact Or.inr (Or.inl rfl) | exact Or.inr (Or.inr rfl)) (hd : (sn == ("__debug__" : Str)) = false := by decide) (hcd : (sn == ("__classdict__" : Str)) = false := by decide)
    (hbase : attributeBase (.Name sn p1) "append" X.env (eval (.Name sn p1) X.env) = eval (.Name sn p1) X.env := by rfl)
    (hfew : ((backTo p (starEach [e] X.env)).all (fun x => !x.1) && (backToKw p (keywordEach [] X.env)).all (fun x => x.1.isSome)
      && decide ([e].length + ([] : List Keyword).length + (if ([] : List Keyword).isEmpty then 0 else 1) < 30)) = true := by rfl)
    (hline : (apos.endLine == p.line) = true := by rfl) (hs : starEach [e] X.env = (false, eval e X.env) :: starEach [] X.env := by rfl) (hplain : (backTo p (starEach [] X.env)).any (·.1) = false := by rfl)
    (hsw : swapsWith (.Call (.Attribute (.Name sn p1) "append" apos) [e] [] p) none pos.line X.env = pure false := by rfl) :
    LS X E (.Expr (.Call (.Attribute (.Name sn p1) "append" apos) [e] [] p) pos) (tDrop (tBM X.K "list" rAppend (tVar i) (tCons te tNil))) (pApp i pe) := by
  refine ⟨ps_expr (pe_bm PySem.F.plainAttrs_list PySem.F.slot_list_append PySem.F.type_list_append mt_append (pe_var hN hv hd hcd) (pa_cons he.py pa_nil hs) hbase hfew hline hs hplain) hsw, fun {G0 H0 Dn P δ σ G H} en t p => ?_⟩
  unfold pApp at p
  split at p
  · rename_i oa ds ed
    obtain ⟨a, xs, ev, hoa, h, g, n, r⟩ := t.sr.own ed
    refine ⟨_, ev, tyV_lst h, he.le t.ok t.sr (en.ex t) p fun v d G' H' y rd q => ?_⟩
    obtain ⟨h', g'⟩ := y.h _ _ h g
    have t1 := t.step y
    refine ⟨a, xs, v, rfl, rfl, h', by rw [r.length, sizeLine_eq]; exact q.1, en.nx ⟨t1.ext.write n g', t1.sr.write ed ev ((r.mono y.g).append (.one rd))⟩ q.2⟩
  · exact p.elim
noncomputable def pIns (i : Nat) (pk pe : PX) : PSx := fun P δ => match δ[i]? with
  | some (some (.own oa ds)) => pk δ (fun k => pe δ (fun d => match k with
      | .int j => ds.length < szl ∧ 0 ≤ j ∧ j < 2 ^ 63 ∧ P.nx (δ.set i (some (.own oa (ds.take j.toNat ++ [d] ++ ds.drop j.toNat))))
      | _ => False) (P.ex δ)) (P.ex δ)
  | _ => False
theorem ls_ins (i : Nat) {e2 : Expr} {te2 : TE} {pe2 : PX} (he : LX X E e te pe) (he2 : LX X E e2 te2 pe2) (hN : X.N[i]? = some sn := by rfl) (hv : Vis X.env.scope sn := by first | exact Or.inl rfl | exact Or.inr (Or.inl rfl) | exact Or.inr (Or.inr rfl)) (hd : (sn == ("__debug__" : Str)) = false := by decide) (hcd : (sn == ("__classdict__" : Str)) = false := by decide)
    (hbase : attributeBase (.Name sn p1) "insert" X.env (eval (.Name sn p1) X.env) = eval (.Name sn p1) X.env := by rfl)
    (hfew : ((backTo p (starEach [e, e2] X.env)).all (fun x => !x.1) && (backToKw p (keywordEach [] X.env)).all (fun x => x.1.isSome)
      && decide ([e, e2].length + ([] : List Keyword).length + (if ([] : List Keyword).isEmpty then 0 else 1) < 30)) = true := by rfl)
    (hline : (apos.endLine == p.line) = true := by rfl) (hs : starEach [e, e2] X.env = (false, eval e X.env) :: starEach [e2] X.env := by rfl) (hs2 : starEach [e2] X.env = (false, eval e2 X.env) :: starEach [] X.env := by rfl) (hplain : (backTo p (starEach [e2] X.env)).any (·.1) = false := by rfl)
    (hsw : swapsWith (.Call (.Attribute (.Name sn p1) "insert" apos) [e, e2] [] p) none pos.line X.env = pure false := by rfl) :
    LS X E (.Expr (.Call (.Attribute (.Name sn p1) "insert" apos) [e, e2] [] p) pos) (tDrop (tBM X.K "list" (fun x vs H Q => ∃ (l : Addr) (xs : List V) (i : Int) (y : V), x = .ref l ∧ vs = [.int i, y] ∧ H l = some (.lst xs) ∧ xs.length < sizeLine ∧ 0 ≤ i ∧ i < 2 ^ 63 ∧
      Q .non (upd H l (.lst (xs.take i.toNat ++ [y] ++ xs.drop i.toNat)))) (tVar i) (tCons te (tCons te2 tNil)))) (pIns i pe pe2) := by
  refine ⟨ps_expr (pe_bm PySem.F.plainAttrs_list PySem.F.slot_list_insert PySem.F.type_list_insert mt_insert (pe_var hN hv hd hcd) (pa_cons he.py (pa_cons he2.py pa_nil hs2) hs) hbase hfew hline hs hplain) hsw, fun {G0 H0 Dn P δ σ G H} en t p => ?_⟩
  unfold pIns at p
  split at p
  · rename_i oa ds ed
    obtain ⟨a, xs, ev, hoa, h, g, n, r⟩ := t.sr.own ed
    refine ⟨_, ev, tyV_lst h, he.le t.ok t.sr (en.ex t) p fun v d G' H' y rd q => ?_⟩
    refine he2.le y.ok (t.sr.ext y) ((en.ex t).ext y) q fun v2 d2 G2 H2 y2 rd2 q2 => ?_
    have y12 := y.trans y2
    obtain ⟨h', g'⟩ := y12.h _ _ h g
    have t1 := t.step y12
    split at q2
    · obtain rfl := rd.intR
      have rr := r.mono y12.g
      exact ⟨a, xs, _, v2, rfl, rfl, h', by rw [r.length, sizeLine_eq]; exact q2.1, q2.2.1, q2.2.2.1, en.nx ⟨t1.ext.write n g', t1.sr.write ed ev (((rr.take _).append (.one rd2)).append (rr.drop _))⟩ q2.2.2.2⟩
    · exact q2.elim
  · exact p.elim
noncomputable def pExt (i : Nat) (pe : PX) : PSx := fun P δ => match δ[i]? with
  | some (some (.own oa ds)) => pe δ (fun d => match d with
      | .lst es => ds.length + es.length ≤ szl ∧ P.nx (δ.set i (some (.own oa (ds ++ es))))
      | _ => False) (P.ex δ)
  | _ => False
theorem ls_ext (i : Nat) (he : LX X E e te pe) (hN : X.N[i]? = some sn := by rfl) (hv : Vis X.env.scope sn := by first | exact Or.inl rfl | exact Or.inr (Or.inl rfl) | exact Or.inr (Or.inr rfl)) (hd : (sn == ("__debug__" : Str)) = false := by decide) (hcd : (sn == ("__classdict__" : Str)) = false := by decide)
    (hbase : attributeBase (.Name sn p1) "extend" X.env (eval (.Name sn p1) X.env) = eval (.Name sn p1) X.env := by rfl)
    (hfew : ((backTo p (starEach [e] X.env)).all (fun x => !x.1) && (backToKw p (keywordEach [] X.env)).all (fun x => x.1.isSome)
      && decide ([e].length + ([] : List Keyword).length + (if ([] : List Keyword).isEmpty then 0 else 1) < 30)) = true := by rfl)
    (hline : (apos.endLine == p.line) = true := by rfl) (hs : starEach [e] X.env = (false, eval e X.env) :: starEach [] X.env := by rfl) (hplain : (backTo p (starEach [] X.env)).any (·.1) = false := by rfl)
    (hsw : swapsWith (.Call (.Attribute (.Name sn p1) "extend" apos) [e] [] p) none pos.line X.env = pure false := by rfl) :
    LS X E (.Expr (.Call (.Attribute (.Name sn p1) "extend" apos) [e] [] p) pos) (tDrop (tBM X.K "list" rExtend (tVar i) (tCons te tNil))) (pExt i pe) := by
  refine ⟨ps_expr (pe_bm PySem.F.plainAttrs_list PySem.F.slot_list_extend PySem.F.type_list_extend mt_extend (pe_var hN hv hd hcd) (pa_cons he.py pa_nil hs) hbase hfew hline hs hplain) hsw, fun {G0 H0 Dn P δ σ G H} en t p => ?_⟩
  unfold pExt at p
  split at p
  · rename_i oa ds ed
    obtain ⟨a, xs, ev, hoa, h, g, n, r⟩ := t.sr.own ed
    refine ⟨_, ev, tyV_lst h, he.le t.ok t.sr (en.ex t) p fun v d G' H' y rd q => ?_⟩
    obtain ⟨h', g'⟩ := y.h _ _ h g
    have t1 := t.step y
    split at q
    · obtain ⟨b, zs, e2, hb, rb⟩ := RV.lst (C := cx X) y.ok (.inl rd)
      subst e2
      exact ⟨a, b, xs, zs, rfl, rfl, h', hb, by rw [r.length, rb.length, sizeLine_eq]; exact q.1, en.nx ⟨t1.ext.write n g', t1.sr.write ed ev ((r.mono y.g).append rb)⟩ q.2⟩
    · exact q.elim
  · exact p.elim
noncomputable def pMut (i : Nat) (f : List D → Option (List D)) : PSx := fun P δ => match δ[i]? with
  | some (some (.own oa ds)) => (match f ds with | some es => P.nx (δ.set i (some (.own oa es))) | none => False)
  | _ => False
noncomputable def pPopAt (i : Nat) (pe : PX) : PSx := fun P δ => match δ[i]? with
  | some (some (.own oa ds)) => pe δ (fun d => match d with
      | .int k => -(2 ^ 63) ≤ k ∧ k < 2 ^ 63 ∧ (match ixN ds.length k with | some j => P.nx (δ.set i (some (.own oa (ds.eraseIdx j)))) | none => False)
      | _ => False) (P.ex δ)
  | _ => False
theorem ixN_seq' {n : Nat} {i : Int} {j : Nat} (h : ixN n i = some j) : seqIndex? i n = some j ∧ j < n := by
  unfold ixN at h
  split at h
  · split at h
    · cases h
      rename_i h0 h1
      exact ⟨seqIndex_of h0 h1, by omega⟩
    · cases h
  · split at h
    · cases h
      rename_i h0 h1
      exact ⟨seqIndex_neg (by omega) h1, by omega⟩
    · cases h
noncomputable def pSetI (i : Nat) (pk pe : PX) : PSx := fun P δ => pe δ (fun d => match δ[i]? with
  | some (some (.own oa ds)) => pk δ (fun k => match k with
      | .int j => (match ixN ds.length j with | some n => P.nx (δ.set i (some (.own oa (ds.set n d)))) | none => False)
      | _ => False) (P.ex δ)
  | _ => False) (P.ex δ)
theorem ls_setI (i : Nat) {e2 : Expr} {te2 : TE} {pe2 : PX} {sp : Pos} (he : LX X E e te pe) (he2 : LX X E e2 te2 pe2) (hN : X.N[i]? = some sn := by rfl) (hv : Vis X.env.scope sn := by first | exact Or.inl rfl | exact Or.inr (Or.inl rfl) | exact Or.inr (Or.inr rfl)) (hd : (sn == ("__debug__" : Str)) = false := by decide) (hcd : (sn == ("__classdict__" : Str)) = false := by decide)
    (ha : ∀ v, assign (.Subscript (.Name sn p1) e2 sp) X.env v = (do
      let ov ← holding [v] (eval (.Name sn p1) X.env)
      let iv ← holding [v, ov] (eval e2 X.env)
      standAt sp
      holding [v, ov, iv] (setItem ov iv v)
      release [v, ov, iv] []) := by intro _; rfl)
    (hs : swapsWithSole [.Subscript (.Name sn p1) e2 sp] e pos.line X.env = pure false := by rfl) (hw : swappedStores [.Subscript (.Name sn p1) e2 sp] e X.env = pure none := by rfl)
    (h1 : (assignEach [.Subscript (.Name sn p1) e2 sp] X.env).map (·.2) = [assign (.Subscript (.Name sn p1) e2 sp) X.env] := by rfl) :
    LS X E (.Assign [.Subscript (.Name sn p1) e2 sp] e pos) (tAsg te (gSub (tVar i) te2 rSetL)) (pSetI i pe2 pe) := by
  refine ⟨ps_asg he.py (pg_sub (pe_var hN hv hd hcd) he2.py set_list ha) hs hw h1, fun {G0 H0 Dn P δ σ G H} en t p => ?_⟩
  refine he.le t.ok t.sr (en.ex t) p fun v d G' H' y rd q => ?_
  have t1 := t.step y
  split at q
  · rename_i oa ds ed
    obtain ⟨a, xs, ev, hoa, h, g, n, r⟩ := t1.sr.own ed
    refine ⟨_, ev, he2.le t1.ok t1.sr (en.ex t1) q fun v2 d2 G2 H2 y2 rd2 q2 => ?_⟩
    obtain ⟨h', g'⟩ := y2.h _ _ h g
    have t2 := t1.step y2
    split at q2
    · obtain rfl := rd2.intR
      split at q2
      · rename_i j ej
        rw [← r.length] at ej
        exact ⟨a, xs, _, j, rfl, rfl, h', ej, en.nx ⟨t2.ext.write n g', t2.sr.write ed ev (RAll.set (rd.mono y2.g) j (r.mono y2.g))⟩ q2⟩
      · exact q2.elim
    · exact q2.elim
  · exact q.elim
end
end
end Pu
set_option Elab.async false
set_option linter.all false
set_option maxRecDepth 100000
set_option maxHeartbeats 2000000
set_option autoImplicit false
namespace Pu
open PySem PySem.Spec L2
noncomputable def PB (s0 s1 s2 s3 : Int) (ns : List Int) : Prop := ns.length ≤ 63 ∧ 0 ≤ s0 ∧ 0 ≤ s1 ∧ s1 < 2147483629 ∧ 0 ≤ s2 ∧ 0 ≤ s3 ∧ s3 ≤ ns.length
noncomputable def plD (s0 s1 s2 s3 : Int) (l : Addr) (ns : List Int) : List D := [.int s0, .int s1, .int s2, .int s3, .pin l ns]
noncomputable def plE (p l : Addr) (ns : List Int) (δ : Dl) : Prop := ∃ s0 s1 s2 s3, δ[(0 : Nat)]? = some (some (.own (some p) (plD s0 s1 s2 s3 l ns))) ∧ PB s0 s1 s2 s3 ns
noncomputable def wpPl (N : Nat) (pb : PSx) : PSp := fun ds P P2 => match ds with
  | .pool :: rest => rest.all flatD = true ∧ ∀ (p l : Addr) (s0 s1 s2 s3 : Int) (ns : List Int), PB s0 s1 s2 s3 ns →
      pb { nx := fun δ => plE p l ns δ ∧ P .non, rt := fun δ d => plE p l ns δ ∧ P d, bk := fun _ => False, ct := fun _ => False, ex := fun _ _ => False }
        (some (.own (some p) (plD s0 s1 s2 s3 l ns)) :: startD (N - 1) rest)
  | _ => False
theorem R.flatG {C : Ctx} {G G' : Gp} {v : V} {d : D} (r : R C G v d) (h : flatD d = true) : R C G' v d := by
  cases r <;> first | exact .non | exact .bl _ | exact .int _ | exact .str _ | cases h
theorem RAll.flatG {C : Ctx} {G G' : Gp} : ∀ {vs : List V} {ds : List D}, RAll C G vs ds → ds.all flatD = true → RAll C G' vs ds
  | _, _, .nil, _ => .nil
  | _, _, .cons r t, h => by
    simp only [List.all_cons, Bool.and_eq_true] at h
    exact .cons (r.flatG h.1) (RAll.flatG t h.2)
section
variable {P : Program} {w : World} {K : PySem.W.Frag} {mg : Str → Option Value} {base : Heap}
theorem pl_rel {C : Ctx} {G : Gp} {Hb H : Hp} {N : Nat} {Ns : List Str} {p : Addr} {xs : List V} {es : List D} {vs : List V} {ds : List D} (hN : Ns.length = N) (hN0 : 0 < N) (r : RAll C G vs ds) (hx : H p = some (.lst xs)) (gx : G p = none) (nx : Hb p = none) (re : RAll C G xs es) :
    SRel C Hb G H (L2.start Ns (.ref p :: vs)) (some (.own (some p) es) :: startD (N - 1) ds) := by
  obtain ⟨Ns', hNs⟩ : ∃ (Ns' : List Str), Ns'.length = N - 1 := ⟨Ns.tail, by rw [List.length_tail, hN]⟩
  have e1 : L2.start Ns (.ref p :: vs) = some (.ref p) :: L2.start Ns' vs := by
    unfold L2.start
    rw [List.map_cons, List.cons_append, List.length_cons, hN, hNs]
    have : N - (vs.length + 1) = N - 1 - vs.length := by omega
    rw [this]
  have e2 : startD (N - 1) ds = startD Ns'.length ds := by rw [hNs]
  rw [e1, e2]
  have b : SRel C Hb G H (L2.start Ns' vs) (startD Ns'.length ds) := r.startR
  have noOwn : ∀ (i : Nat) (s : S), (startD Ns'.length ds)[i]? = some (some s) → s.isOwn = false := fun i s h => by
    unfold startD at h
    by_cases hi : i < ds.length
    · rw [List.getElem?_append_left (by simpa using hi), List.getElem?_map] at h
      cases e : ds[i]? with
      | none => rw [e] at h; cases h
      | some d => rw [e] at h; cases h; rfl
    · rw [List.getElem?_append_right (by simpa using hi)] at h
      have := List.mem_of_getElem? h
      simp at this
  refine ⟨by rw [List.length_cons, List.length_cons, b.len], fun i s h => ?_, fun i j s s' v v' n h1 h2 o1 o2 _ _ => ?_, fun i j P d s' v' a n h1 h2 e2 pa f => ?_⟩
  · cases i with
    | zero =>
      have : some (S.own (some p) es) = some s := Option.some.inj h
      cases this
      exact ⟨_, rfl, .own (fun b z => by cases z; rfl) hx gx nx re⟩
    | succ i => exact b.at_ i s (by simpa using h)
  · exfalso
    cases i with
    | zero =>
      cases j with
      | zero => exact n rfl
      | succ j => rw [noOwn j s' (by simpa using h2)] at o2; cases o2
    | succ i => rw [noOwn i s (by simpa using h1)] at o1; cases o1
  · cases i with
    | zero => cases Option.some.inj h1
    | succ i => obtain ⟨_, z⟩ := startD_d (i := i) (by simpa using h1); cases z
theorem fn_mkPl {x qual : Str} {st : Stmt} {f : Addr} {fd : FuncData} {N ps : List Str} {k : Nat} {pb : PSx} (F : Fun K x qual st f fd) (S : FnScope N ps (defScope st)) (hN0 : 0 < N.length)
    (hbody : ∀ (cdv : Value) (A : Around) (outer : List Env) (s : Shared) (H : Hp) (E : XK), Room k (A.deeper (PyProof.Rows.envOfC qual (defScope st) s.heap.objs.size f cdv)) →
      ∃ t, LSs (cxOf (L2.CX P w) P w K mg base N qual (defScope st) f cdv A outer s H E) (WE (WF E)) (defBody st) t pb) :
    FnOk P w K mg base (L2.CX P w) (k + 1) f fd ps (liftSp ⟨K, mg⟩ (wpPl N.length pb) ps.length) := by
  refine F.okX S (fun vs H Q E h => h.1) (fun cdv A outer s H vs Q E hr h => ?_)
  obtain ⟨hl, G, ds, P1, P2, ok, r, p, q, xx⟩ := h
  obtain ⟨t, h⟩ := hbody cdv A outer s _ E hr
  unfold wpPl at p
  split at p
  · rename_i rest
    obtain ⟨fr, p⟩ := p
    cases r with
    | cons r0 rr =>
      cases r0 with
      | @pool pa l ns hg =>
        obtain ⟨⟨hns, s0, s1, s2, s3, hp, b0, b1, b2, b3, b4, b5⟩, gl⟩ : PoolAt H pa l ns ∧ LkG G l (ns.map V.int) := ok.at_ pa _ hg
        have lp : l ≠ pa := fun z => by rw [z] at gl; rcases gl with gl | gl <;> (rw [hg] at gl; cases gl)
        classical
        let Gr : Gp := fun a => if a = pa then none else G a
        let Hb : Hp := fun a => if a = pa then none else H a
        have grn : ∀ {a}, a ≠ pa → Gr a = G a := fun h => if_neg h
        have grp : Gr pa = none := if_pos rfl
        have hbp : Hb pa = none := if_pos rfl
        have okr : Ok Gr H := ⟨fun a g h => by
          by_cases e : a = pa
          · rw [e, grp] at h; cases h
          · rw [grn e] at h
            have z := ok.at_ a g h
            cases g with
            | fz o => exact z
            | pool l2 ns2 =>
              obtain ⟨z1, z2⟩ : PoolAt H a l2 ns2 ∧ LkG G l2 (ns2.map V.int) := z
              exact ⟨z1, by
                unfold LkG
                rw [grn (fun y => by rw [y] at z2; rcases z2 with z2 | z2 <;> (rw [hg] at z2; cases z2))]; exact z2⟩
            | vw u => exact z⟩
        have x1 : Ext Gr Hb Gr H := ⟨fun _ _ h => h, okr, fun a o h g => ⟨by
          have h' : (if a = pa then none else H a) = some o := h
          split at h'
          · cases h'
          · exact h', g⟩⟩
        have re : RAll ⟨K, mg⟩ Gr [.int s0, .int s1, .int s2, .int s3, .ref l] (plD s0 s1 s2 s3 l ns) :=
          .cons (.int _) (.cons (.int _) (.cons (.int _) (.cons (.int _) (.cons (.pin (by unfold LkG; rw [grn lp]; exact gl)) .nil))))
        refine ⟨t, h.py, h.le (P := { nx := fun δ => plE pa l ns δ ∧ P1 .non, rt := fun δ d => plE pa l ns δ ∧ P1 d, bk := fun _ => False, ct := fun _ => False, ex := fun _ _ => False }) (G0 := Gr) (H0 := Hb) ?_
          ⟨x1, pl_rel rfl hN0 (rr.flatG fr) hp grp hbp re⟩ (p pa l s0 s1 s2 s3 ns ⟨hns, b0, b1, b2, b3, b4, b5⟩)⟩
        have back : ∀ {σ : L2.St} {δ : Dl} {G2 : Gp} {H2 : Hp}, Stt ⟨K, mg⟩ Gr Hb σ δ G2 H2 → plE pa l ns δ → ∃ G3, Ext G H G3 H2 ∧ ∀ a g, G2 a = some g → G3 a = some g := fun {σ δ G2 H2} t ⟨t0, t1, t2, t3, ed, hns', c0, c1, c2, c3, c4, c5⟩ => by
          obtain ⟨a, ys, ev, hoa, hy, gy, _, ry⟩ := t.sr.own ed
          obtain rfl := hoa pa rfl
          have ok2 : Ok G2 H2 := t.ext.ok
          obtain ⟨hys, gl'⟩ : ys = [.int t0, .int t1, .int t2, .int t3, .ref l] ∧ LkG G2 l (ns.map V.int) := by
            cases ry with
            | cons r1 ry => cases ry with
              | cons r2 ry => cases ry with
                | cons r3 ry => cases ry with
                  | cons r4 ry => cases ry with
                    | cons r5 ry =>
                      cases ry
                      cases r1; cases r2; cases r3; cases r4
                      cases r5 with
                      | pin hl => exact ⟨rfl, hl⟩
          subst hys
          let G3 : Gp := fun a => if a = pa then some (.pool l ns) else G2 a
          have g3p : G3 pa = some (.pool l ns) := if_pos rfl
          have g3n : ∀ {a}, a ≠ pa → G3 a = G2 a := fun h => if_neg h
          have sub : ∀ a g, G2 a = some g → G3 a = some g := fun a g h => by rw [g3n (fun z => by rw [z, gy] at h; cases h)]; exact h
          refine ⟨G3, ⟨fun a g h => ?_, ⟨fun a g h => ?_⟩, fun a o h g => ?_⟩, sub⟩
          · by_cases e : a = pa
            · rw [e, hg] at h; rw [e, g3p]; exact h
            · exact sub a g (t.ext.g a g (by rw [grn e]; exact h))
          · by_cases e : a = pa
            · rw [e, g3p] at h
              cases h
              rw [e]
              exact ⟨⟨hns, t0, t1, t2, t3, hy, c0, c1, c2, c3, c4, c5⟩, gl'.mono sub⟩
            · rw [g3n e] at h
              have z := ok2.at_ a g h
              cases g with
              | fz o => exact z
              | pool l2 ns2 =>
                obtain ⟨z1, z2⟩ : PoolAt H2 a l2 ns2 ∧ LkG G2 l2 (ns2.map V.int) := z
                exact ⟨z1, z2.mono sub⟩
              | vw u => exact z
          · have e : a ≠ pa := fun z => by rw [z, hg] at g; cases g
            obtain ⟨h1, g1⟩ := t.ext.h a o (by show (if a = pa then none else H a) = _; rw [if_neg e]; exact h) (by rw [grn e]; exact g)
            exact ⟨h1, by rw [g3n e]; exact g1⟩
        refine ⟨fun t p => ?_, fun t r p => ?_, fun _ p => p.elim, fun _ p => p.elim, fun t _ _ _ _ _ _ _ p => False.elim p⟩
        · obtain ⟨G3, x3, _⟩ := back t p.1
          exact q _ _ _ _ x3 .non p.2
        · obtain ⟨G3, x3, sb⟩ := back t p.1
          exact q _ _ _ _ x3 (r.mono sb) p.2
  · exact p.elim

noncomputable def wpNewPool : PSp := fun ds P _ => ∃ ns : List Int, ds = [.script ns] ∧ ns.length ≤ 63 ∧ P .pool
theorem fn_newPool {x qual : Str} {st : Stmt} {f : Addr} {fd : FuncData} {N ps : List Str} {k : Nat} {e : Expr} {pos : Pos} {pe : PX} (F : Fun K x qual st f fd) (S : FnScope N ps (defScope st)) (hps : ps.length = 1) (hst : defBody st = [.Return (some e) pos])
    (hbody : ∀ (cdv : Value) (A : Around) (outer : List Env) (s : Shared) (H : Hp) (E : XK), Room k (A.deeper (PyProof.Rows.envOfC qual (defScope st) s.heap.objs.size f cdv)) →
      ∃ te, LO (cxOf (L2.CX P w) P w K mg base N qual (defScope st) f cdv A outer s H E) (WE (WF E)) e te pe)
    (hp : ∀ (ns : List Int) (P : D → Prop), P (.lst [.int 0, .int 1, .int 0, .int 0, .lst (ns.map .int)]) → pe (startD N.length [.script ns]) P (fun _ => False)) :
    FnOk P w K mg base (L2.CX P w) (k + 1) f fd ps (liftSp ⟨K, mg⟩ wpNewPool ps.length) := by
  refine F.okX S (fun vs H Q E h => h.1) (fun cdv A outer s H vs Q E hr h => ?_)
  obtain ⟨hl, G, ds, P1, P2, ok, r, ⟨ns, rfl, hns, p⟩, q, xx⟩ := h
  obtain ⟨te, h⟩ := hbody cdv A outer s H E hr
  refine ⟨tRet te, by rw [hst]; exact pss_one (ps_ret h.py), ?_⟩
  refine h.le (P := fun d => d = .lst [.int 0, .int 1, .int 0, .int 0, .lst (ns.map .int)]) (P2 := fun _ => False) (H0 := H) ok r.startR (fun _ _ _ _ _ _ _ z => z.elim) (hp ns _ rfl) fun a xs ds G' H' y hn ha ga ra ed => ?_
  cases ed
  cases ra with
  | cons r1 ra => cases ra with
    | cons r2 ra => cases ra with
      | cons r3 ra => cases ra with
        | cons r4 ra => cases ra with
          | cons r5 ra =>
            cases ra
            cases r1; cases r2; cases r3; cases r4
            cases r5 with
            | @lst l5 _ _ hl5 rl =>
              have e5 := rl.int
              subst e5
              have sub := updG_keep (g := GO.pool l5 ns) ga
              have x3 : Ext G H (updG G' a (.pool l5 ns)) H' := by
                refine ⟨fun b g h => sub b g (y.g b g h), ⟨fun b g h => ?_⟩, fun b o h g => ?_⟩
                · by_cases e : b = a
                  · rw [e, updG_same] at h
                    cases h
                    rw [e]
                    exact ⟨⟨hns, 0, 1, 0, 0, ha, by decide, by decide, by decide, by decide, by decide, by omega⟩, .inl (sub _ _ hl5)⟩
                  · rw [updG_ne e] at h
                    have z := y.ok.at_ b g h
                    cases g with
                    | fz o => exact z
                    | pool l2 ns2 =>
                      obtain ⟨z1, z2⟩ : PoolAt H' b l2 ns2 ∧ LkG G' l2 (ns2.map V.int) := z
                      exact ⟨z1, z2.mono sub⟩
                    | vw u => exact z
                · obtain ⟨h1, g1⟩ := y.h b o h g
                  exact ⟨h1, by rw [updG_ne (ne_of_none h hn)]; exact g1⟩
              exact q _ .pool _ _ x3 (.pool updG_same) p
end
end Pu
set_option Elab.async false
set_option linter.all false
set_option maxRecDepth 100000
set_option maxHeartbeats 2000000
set_option autoImplicit false
namespace Pu
open PySem PySem.Spec L2
structure ExT (K : PySem.W.Frag) (mg : Str → Option Value) (c : Nat) (A fI : Addr) : Prop where
  mg : mg (cname c) = some (.ref A)
  ox : OexC K A
  ini : PySem.W.findIn K (.ref A) "__init__" = some (some (.ref fI))
  ty : PySem.W.typeIn K (.ref fI) = some (.type "function")
  no : ∀ f ∈ cfs c, PySem.W.findIn K (.ref A) f = some none
noncomputable def spX (C : Ctx) (c n : Nat) : Sp := fun vs H Q _ => vs.length = n ∧ ∃ (a A : Addr) (ws : List V), vs = .ref a :: ws ∧ C.mg (cname c) = some (.ref A) ∧ H a = some (exo a A none) ∧
  ∀ (d : Addr) (H' : Hp), H d = none → d ≠ a → H' a = some (exo a A (some d)) → H' d = some (exd d (mkF c ws).reverse) → (∀ b o, b ≠ a → H b = some o → H' b = some o) → Q .non H'
noncomputable def spXt (C : Ctx) (c n : Nat) : Sp := fun vs H Q _ => vs.length = n ∧ ∃ (a A t : Addr) (xs : List V), vs = [.ref a, .ref t] ∧ SqT C.K H t xs ∧ C.mg (cname c) = some (.ref A) ∧ H a = some (exo a A none) ∧
  ∀ (d : Addr) (H' : Hp), H d = none → d ≠ a → H' a = some (exo a A (some d)) → H' d = some (exd d (mkF c [.ref t]).reverse) → (∀ b o, b ≠ a → H b = some o → H' b = some o) → Q .non H'
section
variable {X : Cx} {W : WX} {k : Nat} {f : Addr} {fd : FuncData} {ps : List Str} {p pos rpos : Pos} {e : Expr} {es : List Expr} {ta : TA} {pa : PAx}
noncomputable def pRaise (c : Nat) (pa : PAx) : PSx := fun P δ => pa δ (fun ds => ds.length = (cfs c).length ∧ ds ≠ [] ∧ P.ex δ ⟨c, ds⟩) (P.ex δ)
theorem raise_end {C : Ctx} {G1 : Gp} {H1 H' : Hp} {a A d : Addr} {c : Nat} {vs : List V} {ds : List D} {E : XK} {P : Exn → Prop} (ok : Ok G1 H1) (hm : C.mg (cname c) = some (.ref A)) (na : H1 a = none) (r : RAll C G1 vs ds) (hlen : ds.length = (cfs c).length)
    (nd : upd H1 a (exo a A none) d = none) (ha : H' a = some (exo a A (some d))) (hd : H' d = some (exd d (mkF c vs).reverse)) (keep : ∀ b o, b ≠ a → upd H1 a (exo a A none) b = some o → H' b = some o) (eo : EOk C G1 H1 E P) (p : P ⟨c, ds⟩) :
    ∃ (d' : Addr) (fs : List (Str × V)), H' a = some (exo a A (some d')) ∧ H' d' = some (exd d' fs) ∧ H1 d' = none ∧ E (.ref A) (some d') (upd (del H' a) d' (.xd fs)) := by
  have da : d ≠ a := fun z => by rw [z, upd_same] at nd; cases nd
  have nd1 : H1 d = none := by rw [upd_ne da] at nd; exact nd
  refine ⟨d, _, ha, hd, nd1, ?_⟩
  have keep1 : ∀ b o, H1 b = some o → upd (del H' a) d (.xd (mkF c vs).reverse) b = some o := fun b o h => by
    have ba : b ≠ a := ne_of_none h na
    have bd : b ≠ d := ne_of_none h nd1
    rw [upd_ne bd, del_ne ba]
    exact keep b o ba (by rw [upd_ne ba]; exact h)
  have gd : G1 d = none := ok.none_of nd1
  have x : Ext G1 H1 (updG G1 d (.fz (.xd (mkF c vs).reverse))) (upd (del H' a) d (.xd (mkF c vs).reverse)) := by
    refine ⟨fun b g h => updG_keep gd b g h, ⟨fun b g h => ?_⟩, fun b o h g => ⟨keep1 b o h, by rw [updG_ne (ne_of_none h nd1)]; exact g⟩⟩
    by_cases e : b = d
    · rw [e, updG_same] at h
      cases h
      rw [e]
      exact upd_same
    · rw [updG_ne e] at h
      have z := ok.at_ b g h
      cases g with
      | fz o => exact keep1 b o z
      | pool l ns =>
        obtain ⟨⟨h1, s0, s1, s2, s3, h2, h3⟩, h4⟩ : PoolAt H1 b l ns ∧ _ := z
        exact ⟨⟨h1, s0, s1, s2, s3, keep1 _ _ h2, h3⟩, h4.mono (updG_keep gd)⟩
      | vw u => exact keep1 b _ z
  exact eo _ _ _ _ ⟨c, ds⟩ x ⟨A, hm, rfl, hlen, .inr ⟨d, vs, rfl, updG_same, r.mono (updG_keep gd)⟩⟩ p
theorem ls_raise {c n : Nat} {A fI : Addr} (hc : X.calm = true) (tk : Takes X W) (T : ExT X.K X.mg c A fI) (F : FnOk X.prog X.w X.K X.mg X.base (L2.CX X.prog X.w) k fI fd ps (spX (cx X) c (n + 1))) (hr : Room (k + 1) X.A) (hb : Binds X.K fd ps []) (hg : Gl X (cname c))
    (ha : LAn X (WE W) (e :: es) ta pa n) (hsz : n ≤ 1000 := by decide) (hdb : (cname c == ("__debug__" : Str)) = false := by decide) (he : starEach (e :: es) X.env = (false, eval e X.env) :: starEach es X.env := by rfl) (hpl : (backTo pos (starEach es X.env)).any (·.1) = false := by rfl) :
    LS X (WE W) (.Raise (some (.Call (.Name (cname c) p) (e :: es) [] pos)) none rpos) (fun _ σ H => tMkO A (spX (cx X) c (n + 1)) [] ta σ H fun cls d H' => W cls d σ H') (pRaise c pa) := by
  refine ⟨ps_raise hc tk (pmk_oex T.ox T.ini T.ty F hr hb .nil passL hg T.mg ha.py hdb he hpl), fun {G0 H0 Dn P δ σ G H} en t q => ha.le t.ok t.sr (en.ex t) q fun vs ds G1 H1 hn y r p1 => ?_⟩
  refine ⟨by rw [hn]; exact hsz, fun a na => ?_⟩
  rw [List.append_nil]
  refine ⟨by rw [List.length_cons, hn], a, A, vs, rfl, T.mg, upd_same, fun d H' nd nda ha' hd' kp => ⟨rfl, ?_⟩⟩
  exact raise_end y.ok T.mg na r p1.1 nd ha' hd' kp ((en.ex t).ext y) p1.2.2
noncomputable def pRaiseT (c : Nat) (pa : PAx) : PSx := fun P δ => pa δ (fun ds => match ds with | [.tup es] => (cfs c).length = 1 ∧ P.ex δ ⟨c, [.tup es]⟩ | _ => False) (P.ex δ)
end
section
variable {P : Program} {w : World} {K : PySem.W.Frag} {mg : Str → Option Value} {base : Heap}
theorem xinit2 {c : Nat} {qual : Str} {st : Stmt} {f A : Addr} {fd : FuncData} {N : List Str} {n0 n1 n2 : Str} {q1 q2 q3 q4 q5 q6 q7 q8 : Pos} (F : Fun K "__init__" qual st f fd) (S : FnScope N [n0, n1, n2] (defScope st)) (hN : N = [n0, n1, n2]) (T : ExT K mg c A f)
    (hst : defBody st = [.Assign [.Attribute (.Name n0 q1) n1 q2] (.Name n1 q3) q4, .Assign [.Attribute (.Name n0 q5) n2 q6] (.Name n2 q7) q8]) (hf : cfs c = [n1, n2])
    (hb : ∀ (cdv : Value) (A' : Around) (outer : List Env) (s : Shared) (H : Hp) (E : XK),
      (PSs (cxOf (L2.CX P w) P w K mg base N qual (defScope st) f cdv A' outer s H E) [.Assign [.Attribute (.Name n0 q1) n1 q2] (.Name n1 q3) q4, .Assign [.Attribute (.Name n0 q5) n2 q6] (.Name n2 q7) q8] (tSeq (tOst K n1 (tVar 0) (tVar 1)) (tOst K n2 (tVar 0) (tVar 2))))) :
    FnOk P w K mg base (L2.CX P w) 1 f fd [n0, n1, n2] (spX ⟨K, mg⟩ c 3) := by
  refine F.okX S (fun vs H Q E h => h.1) (fun cdv A' outer s H vs Q E hr h => ?_)
  obtain ⟨hl, a, A2, ws, rfl, hm, ha, q⟩ := h
  obtain ⟨y1, y2, rfl⟩ : ∃ y1 y2, ws = [y1, y2] := by
    match ws, hl with
    | [y1, y2], _ => exact ⟨y1, y2, rfl⟩
  have eA : A2 = A := by
    have z := hm.symm.trans T.mg
    cases z
    rfl
  subst eA
  refine ⟨_, by rw [hst]; exact hb cdv A' outer s H E, ?_⟩
  subst hN
  refine ⟨y1, rfl, .ref a, rfl, a, A2, rfl, T.ox, T.no n1 (by rw [hf]; simp), .inl ⟨ha, fun dx ndx ne => ?_⟩⟩
  refine ⟨y2, rfl, .ref a, rfl, a, A2, rfl, T.ox, T.no n2 (by rw [hf]; simp), .inr ⟨dx, _, upd_same, by rw [upd_ne ne]; exact upd_same, by show 1 ≤ 900; decide, ?_⟩⟩
  refine q dx _ ndx ne (by rw [upd_ne (Ne.symm ne)]; exact upd_same) (by rw [upd_same]; unfold mkF; rw [hf]; rfl) fun b o hba hb' => ?_
  have hbd : b ≠ dx := ne_of_none hb' ndx
  rw [upd_ne hbd, upd_ne hba, upd_ne hbd]
  exact hb'
end
end Pu
set_option Elab.async false
set_option linter.all false
set_option maxRecDepth 100000
set_option maxHeartbeats 2000000
set_option autoImplicit false
namespace Pu
open PySem PySem.Spec PyProof.Rows L2
section
variable {X : Cx} {E : L2.St → XK}
theorem PE.or {e : Expr} {t u : TE} (h : PE X e t) (h' : PE X e u) : PE X e (fun σ H Q => t σ H Q ∨ u σ H Q) := ⟨fun pins s σ H Q I q => by
  rcases q with q | q
  · exact h.run pins s σ H Q I q
  · exact h'.run pins s σ H Q I q⟩
theorem LX.or {e : Expr} {t u : TE} {p q : PX} (h : LX X E e t p) (h' : LX X E e u q) : LX X E e (fun σ H Q => t σ H Q ∨ u σ H Q) (fun δ P P2 => p δ P P2 ∨ q δ P P2) := ⟨PE.or h.py h'.py, fun k s x pq c => by
  rcases pq with pq | pq
  · exact .inl (h.le k s x pq c)
  · exact .inr (h'.le k s x pq c)⟩
structure OLo (X : Cx) (r : R2) (f : POp) : Prop where
  le : ∀ {G : Gp} {H : Hp} {x y : V} {dx dy : D} {Q : VK} {P : D → Prop}, Ok G H → RV (cx X) G H x dx → RV (cx X) G H y dy → f dx dy P →
    (∀ p xs ds G' H', Ext G H G' H' → H p = none → H' p = some (.lst xs) → G' p = none → RAll (cx X) G' xs ds → P (.lst ds) → Q (.ref p) H') → r x y H Q
theorem lo_bin {op : Operator} {r : R2} {f : POp} {a b : Expr} {ta tb : TE} {pa pb : PX} {pos : Pos} (ho : OpR X (binaryOp op) r) (ol : OLo X r f) (ha : LV X E a ta pa) (hb : LV X E b tb pb) : LO X E (.BinOp a op b pos) (tOp r ta tb) (pOp f pa pb) := by
  refine ⟨pe_op ho ha.py hb.py, fun {δ σ G H H0 Q P P2} k s x p q => ha.le k s x p fun v d G1 H1 y1 r1 p1 => ?_⟩
  refine hb.le y1.ok (s.ext y1) (x.ext y1) p1 fun u d2 G2 H2 y2 r2 p2 => ?_
  exact ol.le y2.ok (r1.ext y2) r2 p2 fun l xs ds G3 H3 y3 hn hp gp rr p3 => q l xs ds G3 H3 ((y1.trans y2).trans y3) ((y1.trans y2).back hn) hp gp rr p3
noncomputable def fCat : POp := fun x y P => match x, y with | .lst a, .lst b => a.length + b.length ≤ szl ∧ P (.lst (a ++ b)) | _, _ => False
noncomputable def fRep : POp := fun x y P => match x, y with | .lst a, .int j => -(2 ^ 63) ≤ j ∧ j < 2 ^ 63 ∧ a.length * j.toNat ≤ szl ∧ P (.lst (List.replicate j.toNat a).flatten) | _, _ => False
theorem olo_rep : OLo X rRep fRep := by
  refine ⟨fun {G H x y dx dy Q P} k rx ry p q => ?_⟩
  unfold fRep at p
  split at p
  · obtain ⟨a, xs, e1, h1, r1⟩ := rx.lst k
    exact ⟨a, _, xs, e1, ry.int, h1, p.1, p.2.1, by rw [r1.length, sizeLine_eq]; exact p.2.2.1, fun l hl => q l _ _ G _ (Ext.new k hl) hl upd_same (k.none_of hl) (r1.rep _) p.2.2.2⟩
  · exact p.elim
noncomputable abbrev POx := Dl → (Option Int → Prop) → (Exn → Prop) → Prop
structure LP (X : Cx) (E : L2.St → XK) (e : Option Expr) (t : TO) (p : POx) : Prop where
  py : PO X e t
  le : ∀ {δ : Dl} {σ : L2.St} {G : Gp} {H H0 : Hp} {Q : Option Int → Hp → Prop} {P : Option Int → Prop} {P2 : Exn → Prop}, Ok G H → SRel (cx X) H0 G H σ δ → EOk (cx X) G H (E σ) P2 → p δ P P2 →
    (∀ o G' H', Ext G H G' H' → P o → Q o H') → t σ H Q
noncomputable def pNo : POx := fun _ P _ => P none
noncomputable def pPart (pe : PX) : POx := fun δ P P2 => pe δ (fun d => match d with | .int i => P (some i) | _ => False) P2
theorem lp_none : LP X E none tNoPart pNo := ⟨po_none, fun k s x p q => q _ _ _ (.refl k) p⟩
theorem lp_some {e : Expr} {te : TE} {pe : PX} (h : LX X E e te pe) : LP X E (some e) (tPart te) (pPart pe) := ⟨po_some h.py, fun k s x p q => h.le k s x p fun v d G' H' y r p' => by
  split at p'
  · obtain rfl := r.intR
    exact ⟨_, rfl, q _ _ _ y p'⟩
  · exact p'.elim⟩
noncomputable def cutD (xs : List D) (lo hi : Option Int) : List D := (xs.drop (HT.sIx xs.length 0 lo)).take (HT.sIx xs.length xs.length hi - HT.sIx xs.length 0 lo)
theorem RAll.cut {C : Ctx} {G : Gp} {xs : List V} {ds : List D} {lo hi : Option Int} (r : RAll C G xs ds) : RAll C G (cutV xs lo hi) (cutD ds lo hi) := by
  unfold cutV cutD
  rw [r.length]
  exact (r.drop _).take _
noncomputable def fSl : D → Option Int → Option Int → (D → Prop) → Prop := fun x lo hi P => match x with
  | .lst ds => P (.lst (cutD ds lo hi))
  | .vw ds => P (.lst (cutD ds lo hi))
  | .tup ds => P (.tup (cutD ds lo hi))
  | .str z => z.length ≤ szl ∧ P (.str (cutS z lo hi))
  | _ => False
noncomputable def pSl (pe : PX) (pl ph : POx) : PX := fun δ P P2 => pe δ (fun x => pl δ (fun lo => ph δ (fun hi => fSl x lo hi P) P2) P2) P2
noncomputable def rSlAll (K : PySem.W.Frag) : V → Option Int → Option Int → Hp → VK → Prop := fun x lo hi H Q => rSlL K x lo hi H Q ∨ rSlN K x lo hi H Q ∨ rSlS x lo hi H Q
theorem sl_all : SlR X (rSlAll X.K) := sl_list.or (sl_tupN.or sl_str)
theorem lx_slice {e : Expr} {lo hi : Option Expr} {te : TE} {tl th : TO} {pe : PX} {pl ph : POx} {p2 pos : Pos} (he : LV X E e te pe) (hl : LP X E lo tl pl) (hh : LP X E hi th ph) : LX X E (.Subscript e (.Slice lo hi none p2) pos) (tSl (rSlAll X.K) te tl th) (pSl pe pl ph) := by
  refine ⟨pe_slice sl_all he.py hl.py hh.py, fun {δ σ G H H0 Q P P2} k s x p q => he.le k s x p fun v d G1 H1 y1 r1 p1 => ?_⟩
  refine hl.le y1.ok (s.ext y1) (x.ext y1) p1 fun o G2 H2 y2 p2 => ?_
  refine hh.le y2.ok ((s.ext y1).ext y2) ((x.ext y1).ext y2) p2 fun o2 G3 H3 y3 p3 => ?_
  have r3 := (r1.ext y2).ext y3
  have y := (y1.trans y2).trans y3
  unfold fSl at p3
  split at p3
  · obtain ⟨a, xs, rfl, h, rr⟩ := r3.lst y3.ok
    exact .inl ⟨a, xs, rfl, SqL.of h, fun l hl => q _ (.lst _) _ _ (y.trans (Ext.newG y3.ok hl)) (.lst updG_same (rr.cut.mono (updG_keep (y3.ok.none_of hl)))) p3⟩
  · obtain ⟨a, xs, rfl, h, rr⟩ := r3.vw y3.ok
    exact .inl ⟨a, xs, rfl, SqL.of h, fun l hl => q _ (.lst _) _ _ (y.trans (Ext.newG y3.ok hl)) (.lst updG_same (rr.cut.mono (updG_keep (y3.ok.none_of hl)))) p3⟩
  · rename_i ds
    have r0 := r3.tupR
    obtain ⟨a, xs, rfl, h, rr⟩ := r3.tup y3.ok
    refine .inr (.inl ⟨a, xs, rfl, h, fun w => ?_, fun _ l ob hl ho => let ⟨x1, x2⟩ := Ext.newT (C := cx X) (o := ob) y3.ok hl ho rr.cut; q _ (.tup _) _ _ (y.trans x1) x2 p3⟩)
    refine q _ _ _ _ y r0 ?_
    have e : cutD ds o o2 = ds := by
      unfold cutD
      rw [← rr.length, w.1, w.2, List.drop_zero, Nat.sub_zero, rr.length, List.take_length]
    rw [e] at p3
    exact p3
  · exact .inr (.inr ⟨_, r3.str, by rw [sizeLine_eq]; exact p3.1, q _ _ _ _ y (.str _) p3.2⟩)
  · exact p3.elim
theorem RV.nd {C : Ctx} {G : Gp} {H : Hp} {v : V} {d : D} {ds : List D} {ns : List Int} (k : Ok G H) (r : RV C G H v d) (e : itemsD d = some ds) (en : intsD ds = some ns) : ∃ a T, v = .ref a ∧ ∀ G' H', Ext G H G' H' → Nd C.K H' a T (ns.map V.int) := by
  rw [intsD_eq en] at e
  unfold itemsD at e
  split at e
  · cases e
    rcases r with r | ⟨a, xs, ds', rfl, e, h, g, r⟩
    · cases r with
      | @lst a xs _ h r =>
        rw [r.int] at h
        exact ⟨a, "list", rfl, fun G' H' x => .inl ⟨rfl, SqL.of (x.ok.fz (x.g _ _ h))⟩⟩
    · cases e
      rw [r.int] at h
      exact ⟨a, "list", rfl, fun G' H' x => .inl ⟨rfl, SqL.of (x.h _ _ h g).1⟩⟩
  · cases e
    cases r.scal (fun _ z => by cases z) with
    | @vw a xs _ h r =>
      rw [r.int] at h
      exact ⟨a, "list", rfl, fun G' H' x => .inl ⟨rfl, SqL.of (x.ok.vw (x.g _ _ h))⟩⟩
  · cases e
    cases r.tupR with
    | @tup a xs _ h r =>
      refine ⟨a, "tuple", rfl, fun G' H' x => .inr ⟨rfl, ?_⟩⟩
      rw [r.int] at h
      rcases h.mono x.g with ⟨o, h, hd⟩ | h
      · exact .inl ⟨o, x.ok.fz h, hd⟩
      · exact .inr h
  · cases e
noncomputable def pCount (po pe : PX) : PX := fun δ P P2 => po δ (fun x => match itemsD x with
  | some ds => (match intsD ds with | some ns => pe δ (fun y => match y with | .int k => P (.int (ns.count k : Nat)) | _ => False) P2 | none => False)
  | none => False) P2
theorem lx_count {o e : Expr} {to te : TE} {po pe : PX} {apos cpos : Pos} (ho : LV X E o to po) (he : LX X E e te pe)
    (hbase : attributeBase o "count" X.env (eval o X.env) = eval o X.env := by rfl)
    (hfew : ((backTo cpos (starEach [e] X.env)).all (fun x => !x.1) && (backToKw cpos (keywordEach [] X.env)).all (fun x => x.1.isSome)
      && decide ([e].length + ([] : List Keyword).length + (if ([] : List Keyword).isEmpty then 0 else 1) < 30)) = true := by rfl)
    (hline : (apos.endLine == cpos.line) = true := by rfl) (hs : starEach [e] X.env = (false, eval e X.env) :: starEach [] X.env := by rfl) :
    LX X E (.Call (.Attribute o "count" apos) [e] [] cpos) (tCnt X.K to te) (pCount po pe) := by
  refine ⟨pe_cnt ho.py he.py hbase hfew hline hs, fun {δ σ G H H0 Q P P2} k s x p q => ho.le k s x p fun v d G1 H1 y1 r1 p1 => ?_⟩
  split at p1
  · rename_i ds ed
    split at p1
    · rename_i ns en
      obtain ⟨a, T, ev, nd⟩ := r1.nd y1.ok ed en
      refine ⟨a, T, ns, ev, nd _ _ (.refl y1.ok), he.le y1.ok (s.ext y1) (x.ext y1) p1 fun w d2 G2 H2 y2 r2 p2 => ?_⟩
      split at p2
      · obtain rfl := r2.intR
        exact ⟨_, rfl, nd _ _ y2, q _ _ _ _ (y1.trans y2) (.int _) p2⟩
      · exact p2.elim
    · exact p1.elim
  · exact p1.elim
end
end Pu
set_option Elab.async false
set_option linter.all false
set_option maxRecDepth 100000
set_option maxHeartbeats 2000000
set_option autoImplicit false
namespace Pu
open PySem PySem.Spec PyProof.Rows L2
noncomputable def isTy (T : String) : D → Option Bool
  | .non => some false
  | .bl _ => some (T == "bool" || T == "int")
  | .int _ => some (T == "int")
  | .str _ => some (T == "str")
  | .lst _ => some (T == "list")
  | .vw _ => some (T == "list")
  | .script _ => some (T == "list")
  | .tup _ => some (T == "tuple")
  | _ => none
noncomputable def IsTyT (T : String) : Prop := kitB "NoneType" T = some false ∧ kitB "bool" T = some (T == "bool" || T == "int") ∧ kitB "int" T = some (T == "int") ∧ kitB "str" T = some (T == "str") ∧ kitB "list" T = some (T == "list") ∧ kitB "tuple" T = some (T == "tuple")
theorem isTy_bool : IsTyT "bool" := by unfold IsTyT; decide +kernel
theorem isTy_int : IsTyT "int" := by unfold IsTyT; decide +kernel
theorem isTy_str : IsTyT "str" := by unfold IsTyT; decide +kernel
theorem isTy_list : IsTyT "list" := by unfold IsTyT; decide +kernel
theorem isTy_tuple : IsTyT "tuple" := by unfold IsTyT; decide +kernel
noncomputable def tyD : D → Option String
  | .non => some "NoneType"
  | .bl _ => some "bool"
  | .int _ => some "int"
  | .str _ => some "str"
  | .lst _ => some "list"
  | .vw _ => some "list"
  | .script _ => some "list"
  | .tup _ => some "tuple"
  | _ => none
theorem isTy_kit {T : String} (h : IsTyT T) {d : D} {b : Bool} (e : isTy T d = some b) : ∃ t, tyD d = some t ∧ kitB t T = some b := by
  obtain ⟨h0, h1, h2, h3, h4, h5⟩ := h
  cases d with
  | non => cases e; exact ⟨_, rfl, h0⟩
  | bl _ => cases e; exact ⟨_, rfl, h1⟩
  | int _ => cases e; exact ⟨_, rfl, h2⟩
  | str _ => cases e; exact ⟨_, rfl, h3⟩
  | lst _ => cases e; exact ⟨_, rfl, h4⟩
  | vw _ => cases e; exact ⟨_, rfl, h4⟩
  | script _ => cases e; exact ⟨_, rfl, h4⟩
  | tup _ => cases e; exact ⟨_, rfl, h5⟩
  | obj _ _ => cases e
  | pool => cases e
  | pin _ _ => cases e
  | cls _ => cases e
section
variable {X : Cx} {E : L2.St → XK}
theorem ty_RV {C : Ctx} {G : Gp} {H : Hp} {v : V} {d : D} {t : String} (k : Ok G H) (r : RV C G H v d) (e : tyD d = some t) : TyX C.K H v (.type t) := by
  rcases r with r | ⟨a, xs, ds, rfl, rfl, h, g, r⟩
  · cases r with
    | non => cases e; exact .base .non
    | bl b => cases e; exact .base (.bl b)
    | int i => cases e; exact .base (.int i)
    | str x => cases e; exact .base (.str x)
    | lst h r => cases e; exact .base (.lst (k.fz h))
    | vw h r => cases e; exact .base (.lst (k.vw h))
    | script h =>
      cases e
      rcases h with h | ⟨o, h⟩ | ⟨o, its, n, h, hc, _⟩
      · exact .base (.lst (k.lk h))
      · exact .base (.frz (k.fz h))
      · exact .kList h hc
    | tup h r =>
      cases e
      rcases h with ⟨o, h, _⟩ | ⟨o, its, n, h, hc, _⟩
      · exact .fTuple (k.fz h)
      · exact .kTuple h hc
    | obj _ _ _ _ => cases e
    | pool _ => cases e
    | pin _ => cases e
    | cls _ => cases e
  · cases e
    exact .base (.lst h)
noncomputable def pIsT (T : String) (pe : PX) : PX := fun δ P P2 => pe δ (fun d => match isTy T d with | some b => P (.bl b) | none => False) P2
theorem lx_isT (T : String) {e : Expr} {te : TE} {pe : PX} {x : Str} {p p2 pos : Pos} (hT : IsTyT T) (he : LV X E e te pe) (hg : Gl X "isinstance") (hm : X.mg "isinstance" = none) (hgx : Gl X x) (hmx : X.mg x = none) (hv : bootBuiltins x = some (.type T)) (hv2 : bootBuiltins "isinstance" = some (.builtin "isinstance"))
    (hn : x ≠ "__name__" := by decide) (hd : (x == ("__debug__" : Str)) = false := by decide)
    (h1 : starEach [e, .Name x p2] X.env = (false, eval e X.env) :: starEach [.Name x p2] X.env := by rfl) (h2 : starEach [.Name x p2] X.env = (false, eval (.Name x p2) X.env) :: starEach [] X.env := by rfl)
    (hpl : (backTo pos (starEach [.Name x p2] X.env)).any (·.1) = false := by rfl) :
    LX X E (.Call (.Name "isinstance" p) [e, .Name x p2] [] pos) (tCB (rIsi X.K) (tCons te (tCons (tC (.ty T)) tNil))) (pIsT T pe) := by
  refine ⟨pe_callB call_isi hg hm hv2 (pa_cons he.py (pa_cons (pe_bltn hgx hmx hv rfl hn hd) pa_nil h2) h1) (by decide) (by decide) h1 hpl, fun {δ σ G H H0 Q P P2} k s x p q => he.le k s x p fun v d G1 H1 y1 r1 p1 => ?_⟩
  split at p1
  · rename_i b eb
    obtain ⟨t, et, ek⟩ := isTy_kit hT eb
    exact ⟨v, .ty T, .type t, .type T, b, rfl, .ty T, ty_RV y1.ok r1 et, kit_ty ek, q _ _ _ _ y1 (.bl b) p1⟩
  · exact p1.elim
structure IsC (K : PySem.W.Frag) (mgv : Str → Option Value) (c : Nat) (A : Addr) (cs : List Nat) : Prop where
  mg : mgv (cname c) = some (.ref A)
  ty : ∀ t ∈ ["NoneType", "bool", "int", "str", "list", "tuple"], PySem.W.kitOne K (.type t) (.ref A) = some false
  own : ∀ c' ∈ cs, ∀ A', mgv (cname c') = some (.ref A') → PySem.W.kitOne K (.ref A') (.ref A) = some (c' == c) ∧ Cls K A' ∧ PySem.W.findIn K (.ref A') "__class__" = some (some (.builtin "object.__class__")) ∧ PySem.W.mroIn K A' (.type "object") = some true
  hn : PySem.W.specialIn K (.builtin "object.__class__") "__get__" = some (some (.builtin "getset_descriptor.__get__"))
  ht : PySem.W.takesIn K (.builtin "object.__class__") = some true
noncomputable def isCl (c : Nat) (cs : List Nat) : D → Option Bool := fun d => match d with
  | .obj c' _ => if cs.contains c' then some (c' == c) else none
  | d => match tyD d with | some _ => some false | none => none
noncomputable def pIsC (c : Nat) (cs : List Nat) (pe : PX) : PX := fun δ P P2 => pe δ (fun d => match isCl c cs d with | some b => P (.bl b) | none => False) P2
end
noncomputable abbrev WN : WX := fun _ _ _ _ => False
noncomputable def pTryEx (i : Nat) (f : Nat → Option Bool) (ps : Addr → Value → Option Addr → PSx) (P : PEnds) : Dl → Exn → Prop := fun δ' e => match f e.c with
  | some true => ∀ a cls d, ps a cls d { nx := fun δ2 => P.nx (δ2.set i none), rt := P.rt, bk := fun δ2 => P.bk (δ2.set i none), ct := fun δ2 => P.ct (δ2.set i none), ex := fun _ _ => False } (δ'.set i (some (.exc a cls d e)))
  | some false => P.ex δ' e
  | none => False
noncomputable def pTryAs (i : Nat) (f : Nat → Option Bool) (pb : PSx) (ps : Addr → Value → Option Addr → PSx) : PSx := fun P δ => pb { P with ex := pTryEx i f ps P } δ
noncomputable def CatT (K : PySem.W.Frag) (mg : Str → Option Value) (cv : Value) (f : Nat → Option Bool) : Prop := ∀ c b, f c = some b → ∀ A, mg (cname c) = some (.ref A) → PySem.W.exmOne K (.ref A) cv = some b
section
variable {X : Cx} {W : WX} {x n : Str} {cv : Value} {i : Nat} {body suite : List Stmt} {b₀ : Stmt} {np pos pos' : Pos} {pb : PSx} {ps : Addr → Value → Option Addr → PSx} {f : Nat → Option Bool}
noncomputable def tXm (K : PySem.W.Frag) (a : Addr) (cls : Value) (d : Option Addr) (fn : Str) (te : TE) : TE := fun σ H Q => ∃ C, XfC K C ∧ PySem.W.findIn K (.ref C) fn = some none ∧ tXf a cls d C fn te σ H Q
noncomputable def pXm (a : Addr) (cls : Value) (d : Option Addr) (i : Nat) (tbl : List (Nat × Nat)) : PX := fun δ P _ => match δ[i]? with
  | some (some (.exc a' cls' d' e)) => a' = a ∧ cls' = cls ∧ d' = d ∧ (match tbl.lookup e.c with | some j => (match e.ds[j]? with | some x => P x | none => False) | none => False)
  | _ => False
noncomputable def XfT (K : PySem.W.Frag) (mg : Str → Option Value) (fn : Str) (tbl : List (Nat × Nat)) : Prop := ∀ c j, tbl.lookup c = some j → (cfs c).Nodup ∧ (cfs c)[j]? = some fn ∧ ∀ A, mg (cname c) = some (.ref A) → XfC K A ∧ PySem.W.findIn K (.ref A) fn = some none
end
section
variable {X : Cx} {a : Addr} {oe : Obj} {cls : Value} {d : Option Addr} {pn : List (Addr × Obj)} {E : L2.St → XK}
noncomputable def rIsX (K : PySem.W.Frag) (a : Addr) (cls : Value) (d : Option Addr) : List V → Hp → VK → Prop := fun xs H Q => ∃ (c : V) (cv : Value) (b : Bool) (C : Addr), cls = .ref C ∧ ExcC K C ∧ (d = none ∨ ∃ dd fs, d = some dd ∧ H dd = some (.xd fs)) ∧ xs = [.ref a, c] ∧ ClsV c cv ∧ PySem.W.kitOne K (.ref C) cv = some b ∧ Q (.bl b) H
noncomputable def IsXT (K : PySem.W.Frag) (mg : Str → Option Value) (cv : Value) (f : Nat → Option Bool) : Prop := ∀ c b, f c = some b → ∀ A, mg (cname c) = some (.ref A) → ExcC K A ∧ PySem.W.kitOne K (.ref A) cv = some b
noncomputable def pIsX (a : Addr) (cls : Value) (d : Option Addr) (i : Nat) (f : Nat → Option Bool) : PX := fun δ P _ => match δ[i]? with
  | some (some (.exc a' cls' d' e)) => a' = a ∧ cls' = cls ∧ d' = d ∧ (match f e.c with | some b => P (.bl b) | none => False)
  | _ => False
end
end Pu
set_option Elab.async false
set_option linter.all false
set_option maxRecDepth 100000
set_option maxHeartbeats 2000000
set_option autoImplicit false
namespace Pu
open PySem PySem.Spec PyProof.Rows L2
mutual
noncomputable def noL : D → Bool
  | .non => true
  | .bl _ => true
  | .int _ => true
  | .str _ => true
  | .lst _ => false
  | .vw _ => false
  | .tup ds => noLL ds
  | .obj _ ds => noLL ds
  | .pool => false
  | .cls _ => true
  | .script _ => false
  | .pin _ _ => false
noncomputable def noLL : List D → Bool
  | [] => true
  | d :: ds => noL d && noLL ds
end
section
variable {C : Ctx} {G G1 G2 G3 : Gp} {H H1 H2 : Hp}
mutual
theorem R.noL (k : ∀ a g, G2 a = some g → (∀ xs, g ≠ .fz (.lst xs)) → (∀ l ns, g ≠ .pool l ns) → G3 a = some g) : ∀ {v : V} {d : D}, R C G2 v d → noL d = true → R C G3 v d
  | _, _, .non, _ => .non
  | _, _, .bl b, _ => .bl b
  | _, _, .int i, _ => .int i
  | _, _, .str x, _ => .str x
  | _, _, .tup h r, e => by
    unfold Pu.noL at e
    refine .tup ?_ (RAll.noL k r e)
    rcases h with ⟨o, h, hd⟩ | h
    · exact .inl ⟨o, k _ _ h (fun _ z => by cases z) (fun _ _ z => by cases z), hd⟩
    · exact .inr h
  | _, _, .obj m h r l, e => by
    unfold Pu.noL at e
    exact .obj m (k _ _ h (fun _ z => by cases z) (fun _ _ z => by cases z)) (RAll.noL k r e) l
  | _, _, .cls m, _ => .cls m
  | _, _, .lst _ _, e => by unfold Pu.noL at e; cases e
  | _, _, .vw _ _, e => by unfold Pu.noL at e; cases e
  | _, _, .script _, e => by unfold Pu.noL at e; cases e
  | _, _, .pool _, e => by unfold Pu.noL at e; cases e
  | _, _, .pin _, e => by unfold Pu.noL at e; cases e
theorem RAll.noL (k : ∀ a g, G2 a = some g → (∀ xs, g ≠ .fz (.lst xs)) → (∀ l ns, g ≠ .pool l ns) → G3 a = some g) : ∀ {vs : List V} {ds : List D}, RAll C G2 vs ds → noLL ds = true → RAll C G3 vs ds
  | _, _, .nil, _ => .nil
  | _, _, .cons r t, e => by
    unfold noLL at e
    rw [Bool.and_eq_true] at e
    exact .cons (R.noL k r e.1) (RAll.noL k t e.2)
end
structure Lent (G G1 : Gp) (H : Hp) : Prop where
  g : ∀ a g, G a = some g → G1 a = some g
  n : ∀ a g, G1 a = some g → G a = some g ∨ (G a = none ∧ ∃ xs, g = .fz (.lst xs) ∧ H a = some (.lst xs))
  ok : Ok G1 H
theorem Lent.refl (k : Ok G H) : Lent G G H := ⟨fun _ _ h => h, fun _ _ h => .inl h, k⟩
noncomputable def backG (G G1 G2 : Gp) : Gp := fun a => match G a with
  | some g => some g
  | none => match G1 a with
    | some _ => none
    | none => match G2 a with
      | some (.fz (.lst _)) => none
      | some (.pool _ _) => none
      | x => x
end

theorem XR.noL {C : Ctx} {G2 G3 : Gp} {cls : Value} {d : Option Addr} {e : Exn} (k : ∀ a g, G2 a = some g → (∀ xs, g ≠ .fz (.lst xs)) → (∀ l ns, g ≠ .pool l ns) → G3 a = some g) (r : XR C G2 cls d e) (h : noLL e.ds = true) : XR C G3 cls d e := by
  obtain ⟨A, h1, h2, h3, h4⟩ := r
  refine ⟨A, h1, h2, h3, ?_⟩
  rcases h4 with h4 | ⟨dd, vs, e1, e2, e3⟩
  · exact .inl h4
  · exact .inr ⟨dd, vs, e1, k _ _ e2 (fun _ z => by cases z) (fun _ _ z => by cases z), RAll.noL k e3 h⟩
section
variable {X : Cx} {W : WX} {k : Nat} {f : Addr} {fd : FuncData} {ps : List Str} {x m : Str} {p pos apos : Pos} {e o : Expr} {es : List Expr} {ta : TE} {t : TA} {psp : PSp} {pa : PAx} {po : PX}
structure LWn (X : Cx) (E : L2.St → XK) (es : List Expr) (ta : TA) (pa : PAx) (n : Nat) : Prop where
  py : PA X es ta
  le : ∀ {δ : Dl} {σ : L2.St} {G : Gp} {H H0 : Hp} {Q : List V → Hp → Prop} {P : List D → Prop} {P2 : Exn → Prop}, Ok G H → SRel (cx X) H0 G H σ δ → EOk (cx X) G H (E σ) P2 → pa δ P P2 →
    (∀ vs ds G' H', vs.length = n → Ext G H G' H' → RVAll (cx X) G' H' vs ds → P ds → Q vs H') → ta σ H Q
noncomputable def spW (psp : PSp) (ds : List D) (P : D → Prop) (P2 : Exn → Prop) : Prop := psp ds (fun d => noL d = true ∧ P d) (fun e => noLL e.ds = true ∧ P2 e)
noncomputable def pCallW (psp : PSp) (pa : PAx) : PX := fun δ P P2 => pa δ (fun ds => spW psp ds P P2) P2
noncomputable def pMakeW (c : Nat) (pi : PSpI) (pa : PAx) : PX := fun δ P P2 => pa δ (fun ds => pi ds (fun fs => noLL fs = true ∧ P (.obj c fs)) (fun e => noLL e.ds = true ∧ P2 e)) P2
noncomputable def tMakeV (C : Addr) (sp : Sp) (E : L2.St → XK) (tf : TE) (t : TA) : TE := fun σ H Q => tf σ H fun v H1 => v = .ref C ∧ tMakeS C sp E t σ H1 Q
noncomputable def pMakeV (i c : Nat) (pi : PSpI) (pa : PAx) : PX := fun δ P P2 => match δ[i]? with
  | some (some (.d (.cls c'))) => c' = c ∧ pMakeW c pi pa δ P P2
  | _ => False
noncomputable def tCMS (C : Addr) (sp : Sp) (E : L2.St → XK) (ta : TE) (t : TA) : TE := fun σ H Q => ta σ H fun v H1 => v = .ref C ∧ t σ H1 fun vs H2 => sp (.ref C :: vs) H2 Q (E σ)
structure CmT (K : PySem.W.Frag) (mgv : Str → Option Value) (c : Nat) (A : Addr) (m : Str) (f : Addr) : Prop where
  mg : mgv (cname c) = some (.ref A)
  rd : ∃ mc pp, ClX.CRead K A mc ∧ ClX.CMet K A mc m pp f
noncomputable def pCm (c : Nat) (psp : PSp) (pa : PAx) : PX := fun δ P P2 => pa δ (fun ds => spW psp (.cls c :: ds) P P2) P2
structure CvT (K : PySem.W.Frag) (mgv : Str → Option Value) (c : Nat) (A : Addr) (fn : Str) (i : Int) : Prop where
  mg : mgv (cname c) = some (.ref A)
  rd : ∃ mc u, ClX.CRead K A mc ∧ ClX.CVal K A mc fn (.int i) u
theorem lx_cval {E : L2.St → XK} {c : Nat} {A : Addr} {fn : Str} {i : Int} {np : Pos} (T : CvT X.K X.mg c A fn i) (hgx : Gl X (cname c)) (hdb : (cname c == ("__debug__" : Str)) = false := by decide)
    (hb : attributeBase (.Name (cname c) np) fn X.env (eval (.Name (cname c) np) X.env) = eval (.Name (cname c) np) X.env := by rfl) :
    LX X E (.Attribute (.Name (cname c) np) fn pos) (ClX.tCVal X.K (tC (.ref A)) fn) (pC (.int i)) := by
  obtain ⟨mc, u, cr, cv⟩ := T.rd
  exact ⟨ClX.pe_cval (pe_glob hgx T.mg rfl hdb) hb, fun k s x p q => ⟨A, mc, .int i, u, rfl, cr, cv, q _ _ _ _ (.refl k) (.int i) p⟩⟩
noncomputable def rSumA (K : PySem.W.Frag) : List V → Hp → VK → Prop := fun vs H Q => ∃ a ns, vs = [V.ref a] ∧ (SqL K H a (ns.map V.int) ∨ SqT K H a (ns.map V.int)) ∧ Q (.int (List.sum ns)) H
theorem cr_sumA (hc : X.calm = true) : CallR X (.builtin "sum") (rSumA X.K) := fun pins s σ H vs us Q I r ⟨a, ns, e, h, q⟩ => by
  rcases h with h | h
  · exact cr_sum hc pins s σ H vs us Q I r ⟨a, ns, e, h, q⟩
  · subst e
    obtain ⟨its, rv, p, _⟩ := I.tuple h
    rw [Vals.ref1 r]
    obtain ⟨xs, ex⟩ := rv.ints.allInts.items
    have hn : numsOf (intItems xs).toList = ns := by rw [← ex]; exact rv.ints.numsOf
    rw [nums_intItems] at hn
    have p' : s.heap.IsTuple a (intItems xs) := by rw [← ex]; exact p
    refine PySem.W.ktm_sumG (I.ok.hd hc) p' fun h' tk t' hk => ⟨.int _, H, I.kept hk, ⟨t', ?_⟩, q⟩
    rw [preSum_eq, List.take_of_length_le (by simp), hn]
noncomputable def fSumA : PFn := fun ds P => match ds with | [d] => (match itemsD d with | some es => (match intsD es with | some ns => P (.int (List.sum ns)) | none => False) | none => False) | _ => False
theorem cl_sumA : CL X (rSumA X.K) fSumA := by
  refine ⟨fun {G H vs ds Q P} k r0 p q => ?_⟩
  unfold fSumA at p
  split at p
  · split at p
    · rename_i es e1
      split at p
      · rename_i ns e2
        obtain ⟨v, rfl, r⟩ := r0.one
        obtain ⟨a, xs, rfl, h, r⟩ := r.items k e1
        rw [intsD_eq e2] at r
        rw [r.int] at h
        exact ⟨_, _, rfl, h, q _ _ _ _ (.refl k) (.int _) p⟩
      · exact p.elim
    · exact p.elim
  · exact p.elim
noncomputable def fSortI : PFn := fun ds P => match ds with | [.lst es] => (match intsD es with | some ns => ∀ ns' : List Int, ns'.Perm ns → ns'.Pairwise (· ≤ ·) → P (.lst (ns'.map .int)) | none => False) | _ => False
theorem cl_sortI : CLo X (rSortedI X.K) fSortI := by
  refine ⟨fun {G H vs ds Q P} k r0 p q => ?_⟩
  unfold fSortI at p
  split at p
  · split at p
    · rename_i ns e
      obtain ⟨v, rfl, r⟩ := r0.one
      obtain ⟨a, xs, rfl, h, r⟩ := r.lst k
      rw [intsD_eq e] at r
      rw [r.int] at h
      exact ⟨_, _, rfl, SqL.of h, fun ns' l hp ho hl => q l _ _ G _ (Ext.new k hl) hl upd_same (k.none_of hl) (RAll.ints _) (p ns' hp ho)⟩
    · exact p.elim
  · exact p.elim
end
section
variable {X : Cx} {k : Nat} {f : Addr} {fd : FuncData} {ps : List Str} {psp : PSp}
noncomputable def rEqO (K : PySem.W.Frag) (A : Addr) (sp : Sp) : R2 := fun x y H Q => ∃ (a dx : Addr) (fs : List (Str × V)) (t : Value), x = .ref a ∧ H a = some (.ins A dx fs) ∧ TyX K H y t ∧ PySem.W.notFirst K A t = true ∧ sp [x, y] H (fun v H' => (∃ b, v = .bl b) ∧ Q v H') E0
structure EqT (K : PySem.W.Frag) (mgv : Str → Option Value) (c : Nat) (A f : Addr) (cs : List Nat) : Prop where
  is : IsC K mgv c A cs
  fi : PySem.W.findIn K (.ref A) "__eq__" = some (some (.ref f))
  fn : PySem.W.isFn K (.ref f) = true
  ty : ∀ t ∈ ["NoneType", "bool", "int", "str", "list", "tuple"], PySem.W.notFirst K A (.type t) = true
  own : ∀ c' ∈ cs, ∀ A', mgv (cname c') = some (.ref A') → PySem.W.notFirst K A (.ref A') = true
noncomputable def fEqO (c : Nat) (cs : List Nat) (psp : PSp) : POp := fun x y P => match x with
  | .obj c' fs => c' = c ∧ (isCl c cs y).isSome = true ∧ noL y = true ∧ psp [.obj c' fs, y] (fun d => ∃ b, d = .bl b ∧ P (.bl b)) (fun _ => False)
  | _ => False
end
end Pu
set_option Elab.async false
set_option linter.all false
set_option maxRecDepth 100000
set_option maxHeartbeats 2000000
set_option autoImplicit false
namespace Pu
open PySem PySem.Spec PyProof.Rows L2
section
variable {P : Program} {w : World} {K : PySem.W.Frag} {mg : Str → Option Value} {base : Heap}
theorem fn_never {k n : Nat} {f : Addr} {fd : FuncData} {ps : List Str} : FnOk P w K mg base (L2.CX P w) k f fd ps (liftSp ⟨K, mg⟩ (fun _ _ _ => False) n) :=
  ⟨fun _ _ _ _ ⟨_, _, _, _, _, _, _, p, _⟩ => p.elim, fun _ _ _ _ _ _ _ _ _ _ _ _ _ ⟨_, _, _, _, _, _, _, p, _⟩ => p.elim⟩
end
theorem lx_gint {X : Cx} {E : L2.St → XK} {x : Str} {i : Int} {pos : Pos} (hg : Gl X x) (hm : ∃ t, X.mg x = some (.int i t)) (hd : (x == ("__debug__" : Str)) = false := by decide) : LX X E (.Name x pos) (tC (.int i)) (pC (.int i)) := by
  obtain ⟨t, h⟩ := hm
  exact lx_glob (v := .int i) hg h ⟨t, rfl⟩ (fun _ => .int i) hd
noncomputable def pSlo (pe : PX) (pl ph : POx) : PX := fun δ P P2 => pe δ (fun x => pl δ (fun lo => ph δ (fun hi => match x with | .lst ds => P (.lst (cutD ds lo hi)) | .vw ds => P (.lst (cutD ds lo hi)) | _ => False) P2) P2) P2
end Pu
set_option Elab.async false
set_option linter.all false
set_option maxRecDepth 100000
set_option maxHeartbeats 2000000
set_option autoImplicit false
namespace Pu
open PySem PySem.Spec PyProof.Rows L2
noncomputable def spLaw (K : PySem.W.Frag) : Sp := fun vs H Q _ => ∃ (a : Addr) (ns : List Int), vs = [.ref a] ∧ SqL K H a (ns.map V.int) ∧ ns.length ≤ 63 ∧ ∀ H', Q (.bl true) H'
theorem law_imp {P : Program} {w : World} {K : PySem.W.Frag} {mg : Str → Option Value} {base : Heap} {k : Nat} {f : Addr} {fd : FuncData} {ps : List Str} {psp : PSp} (F : FnOk P w K mg base (L2.CX P w) k f fd ps (liftSp ⟨K, mg⟩ psp 1))
    (h : ∀ ns : List Int, ns.length ≤ 63 → psp [.script ns] (fun d => d = .bl true) (fun _ => False)) : FnOk P w K mg base (L2.CX P w) k f fd ps (spLaw K) := by
  refine F.imp fun vs H Q E ⟨a, ns, ev, hs, hl, q⟩ => ?_
  subst ev
  have key : ∃ G : Gp, Ok G H ∧ LsG ⟨K, mg⟩ G a (ns.map V.int) := by
    rcases hs with (hs | ⟨o, hs⟩) | hs
    · refine ⟨updG (fun _ => none) a (.fz (.lst (ns.map V.int))), ⟨fun b g hb => ?_⟩, .inl (.inl updG_same)⟩
      by_cases e : b = a
      · rw [e, updG_same] at hb
        cases hb
        rw [e]
        exact hs
      · rw [updG_ne e] at hb
        cases hb
    · refine ⟨updG (fun _ => none) a (.fz (.frz o (.lst (ns.map V.int)))), ⟨fun b g hb => ?_⟩, .inr (.inl ⟨o, updG_same⟩)⟩
      by_cases e : b = a
      · rw [e, updG_same] at hb
        cases hb
        rw [e]
        exact hs
      · rw [updG_ne e] at hb
        cases hb
    · exact ⟨fun _ => none, ⟨fun _ _ hb => by cases hb⟩, .inr (.inr hs)⟩
  obtain ⟨G, ok, r⟩ := key
  refine ⟨rfl, G, [.script ns], _, _, ok, .cons (.script r) .nil, h ns hl, fun v d G' H' _ rv ed => ?_, fun _ _ _ _ _ _ _ z => z.elim⟩
  subst ed
  cases rv
  exact q _
theorem cx_none {P : Program} {w : World} (H : Hp) (s : Shared) (e : Value) (s' : Shared) (h : L2.CX P w [] H s (fun _ _ _ => False) e s') : False := by
  obtain ⟨_, _, _, _, _, _, _, _, _, _, _, _, z⟩ := h
  exact z
theorem at1 {mg : Str → Option Value} {x : Str} {A : Addr} {P : Addr → Prop} (h : mg x = some (.ref A)) (p : P A) : ∀ A', mg x = some (.ref A') → P A' := fun A' h' => by
  cases h.symm.trans h'
  exact p
theorem lookup_mem {c j : Nat} : ∀ {l : List (Nat × Nat)}, l.lookup c = some j → (c, j) ∈ l
  | [], h => by cases h
  | (a, b) :: l, h => by
    unfold List.lookup at h
    split at h
    · rename_i e
      cases h
      have : c = a := by simpa using e
      subst this
      exact List.mem_cons_self
    · exact List.mem_cons_of_mem _ (lookup_mem h)
end Pu
set_option Elab.async false
set_option linter.all false
set_option maxRecDepth 100000
set_option maxHeartbeats 1000000
set_option autoImplicit false
namespace Pu
open PySem L2 PyProof.Rows
inductive Sk | l | t
noncomputable def SqS (K : PySem.W.Frag) : Sk → Hp → Addr → List V → Prop
  | .l => SqL K
  | .t => SqT K
noncomputable def ItS : Sk → Heap → Addr → Addr → Nat → Prop
  | .l => fun h it a i => h.IsListIter it a i
  | .t => fun h it a i => h.IsTupleIter it a i
noncomputable def IsS : Sk → Heap → Addr → Array Value → Prop
  | .l => fun h a xs => h.IsList a xs
  | .t => fun h a xs => h.IsTuple a xs
noncomputable def obS : Sk → Addr → Obj
  | .l => fun a => { cls := .type "list_iterator", data := .fields #[.ref a, .int 0 0] }
  | .t => fun a => { cls := .type "tuple_iterator", data := .fields #[.ref a, .int 0 0] }
theorem sqS_get {X : Cx} {pins : List (Addr × Obj)} {σ : L2.St} {H : Hp} {s : Shared} {k : Sk} {a : Addr} {xs : List V} (I : Inv X pins σ H s) (h : SqS X.K k H a xs) : ∃ its : List Value, Vals xs its ∧ IsS k s.heap a its.toArray := by
  cases k
  · obtain ⟨its, rv, p, _⟩ := I.list h
    exact ⟨its, rv, p.isList⟩
  · obtain ⟨its, rv, p, _⟩ := I.tuple h
    exact ⟨its, rv, p⟩
theorem sqS_inj {X : Cx} {pins : List (Addr × Obj)} {σ : L2.St} {H : Hp} {s : Shared} {k : Sk} {a : Addr} {xs ys : List V} (I : Inv X pins σ H s) (h : SqS X.K k H a xs) (h2 : SqS X.K k H a ys) : xs = ys := by
  cases k
  · exact I.list_inj h h2
  · exact I.tuple_inj h h2
theorem itS_ob {k : Sk} {h : Heap} {it a : Addr} {i : Nat} (q : ItS k h it a i) : ∃ o, h.get? it = some o ∧ (o.cls = .type "list_iterator" ∨ o.cls = .type "tuple_iterator") ∧ ∀ v, o.data ≠ .cell v := by
  cases k
  · obtain ⟨o, e, c, d⟩ := q
    exact ⟨o, e, .inl c, fun v z => by rw [d] at z; cases z⟩
  · obtain ⟨o, e, c, d⟩ := q
    exact ⟨o, e, .inr c, fun v z => by rw [d] at z; cases z⟩
theorem isS_ob {k : Sk} {h : Heap} {a : Addr} {xs : Array Value} (q : IsS k h a xs) : ∃ o, h.get? a = some o ∧ (o.cls = .type "list" ∨ o.cls = .type "tuple") := by
  cases k
  · obtain ⟨o, e, c, _⟩ := q
    exact ⟨o, e, .inl c⟩
  · obtain ⟨o, e, c, _⟩ := q
    exact ⟨o, e, .inr c⟩
theorem isS_ne {k k2 : Sk} {h : Heap} {a it b : Addr} {i : Nat} {xs : Array Value} (p : IsS k h a xs) (q : ItS k2 h it b i) : a ≠ it := by
  rintro rfl
  obtain ⟨o, e, c⟩ := isS_ob p
  obtain ⟨o2, e2, c2, _⟩ := itS_ob q
  rw [e] at e2
  cases e2
  rcases c with c | c <;> rcases c2 with c2 | c2 <;> (rw [c] at c2; revert c2; decide +kernel)
theorem itS_at {k : Sk} {h h' : Heap} {it a : Addr} {i : Nat} (q : ItS k h it a i) (e : ∀ o, h.get? it = some o → h'.get? it = some o) : ItS k h' it a i := by
  cases k
  · exact Heap.IsListIter.at q e
  · exact Heap.IsTupleIter.at q e
theorem itS_0 {k : Sk} {h : Heap} {it a : Addr} (e : h.get? it = some (obS k a)) : ItS k h it a 0 := by
  cases k <;> exact ⟨_, e, rfl, rfl⟩
theorem drawsS {P : Program} {w : World} {A : Around} (hh : A.handled = none) (k : Sk) (it a : Addr) (ne : a ≠ it) (xs : Array Value) :
    Draws P w A it [it, a] xs.size (fun i v => xs[i]? = some v) (fun i h => ItS k h it a i ∧ IsS k h a xs) := by
  cases k
  · exact Draws.list hh it a ne xs
  · exact Draws.tuple hh it a ne xs
theorem beginsS (k : Sk) (a : Addr) (xs : Array Value) : Begins (.ref a) (obS k a) fun h => IsS k h a xs := by
  cases k
  · exact begins_list a xs
  · exact begins_tuple a xs

noncomputable def ItZ2 (K : PySem.W.Frag) (k1 k2 : Sk) (a b : Addr) : It :=
  ⟨fun i H => ∃ (xs ys : List V) (x y : V), SqS K k1 H a xs ∧ SqS K k2 H b ys ∧ xs[i]? = some x ∧ ys[i]? = some y,
    fun i H v H' => ∃ (T : Addr) (x y : V) (o : Obj), v = .ref T ∧ H T = none ∧ o.dict = none ∧ H' = upd H T (.frz o (.tup [x, y])) ∧ (∀ xs, SqS K k1 H a xs → xs[i]? = some x) ∧ ∀ ys, SqS K k2 H b ys → ys[i]? = some y,
    fun i H => ∃ xs ys : List V, SqS K k1 H a xs ∧ SqS K k2 H b ys ∧ i = min xs.length ys.length⟩
theorem turnZ2 {P : Program} {w : World} {K : PySem.W.Frag} {elts : List Expr} {kk : Nat} {tpos : Pos} {k1 k2 : Sk} {a b z TI TO i1 i2 : Addr} (S : ZipSep2 z TI TO i1 i2 [i1, a] [i2, b]) :
    Turn P w K (.Tuple elts kk tpos) (ItZ2 K k1 k2 a b) [z, TI, TO, i1, i2] z (fun i h => IsZip h z TI TO .none ∧ IsTupOf2 h TI (.ref i1) (.ref i2) ∧ (∃ x y, IsTupOf2 h TO x y) ∧ ItS k1 h i1 a i ∧ ItS k2 h i2 b i) where
  mem := by simp
  obj := fun i h st c hc => by
    obtain ⟨jz, jI, ⟨x, y, jO⟩, j1, j2⟩ := st
    obtain ⟨o1, e1, _, d1⟩ := itS_ob j1
    obtain ⟨o2, e2, _, d2⟩ := itS_ob j2
    simp only [List.mem_cons, List.mem_nil_iff, or_false] at hc
    rcases hc with rfl | rfl | rfl | rfl | rfl
    · exact ⟨_, jz, fun v q => nomatch q⟩
    · exact ⟨_, jI, fun v q => nomatch q⟩
    · exact ⟨_, jO, fun v q => nomatch q⟩
    · exact ⟨o1, e1, d1⟩
    · exact ⟨o2, e2, d2⟩
  keep := fun i h h' st k => by
    obtain ⟨jz, jI, ⟨x, y, jO⟩, j1, j2⟩ := st
    exact ⟨k z (by simp) _ jz, k TI (by simp) _ jI, ⟨x, y, k TO (by simp) _ jO⟩, itS_at j1 (k i1 (by simp)), itS_at j2 (k i2 (by simp))⟩
  item := by
    intro X hP hw hK hc i pins s σ H E I hf st hg
    subst hP hw hK
    obtain ⟨jz, jI, ⟨x0, y0, jO⟩, j1, j2⟩ := st
    obtain ⟨xs, ys, x, y, gx, gy, hx, hy⟩ := hg
    obtain ⟨us, ru, pu⟩ := sqS_get I gx
    obtain ⟨vs, rv, pv⟩ := sqS_get I gy
    obtain ⟨u, hu, wu⟩ := ru.get hx
    obtain ⟨v, hv, wv⟩ := rv.get hy
    have lu : i < us.toArray.size := by
      rw [List.size_toArray]; exact (List.getElem?_eq_some_iff.mp hu).1
    have lv : i < vs.toArray.size := by
      rw [List.size_toArray]; exact (List.getElem?_eq_some_iff.mp hv).1
    have hd : X.A.in1.handled = none := I.ok.hd hc
    have lz : z < s.heap.objs.size := Heap.lt_size jz
    have lo : ∀ c, c ∈ [z, TI, TO, i1, i2] → c < s.heap.objs.size := fun c hm => by
      simp only [List.mem_cons, List.mem_nil_iff, or_false] at hm
      rcases hm with rfl | rfl | rfl | rfl | rfl
      · exact lz
      · exact Heap.lt_size jI
      · exact Heap.lt_size jO
      · obtain ⟨_, e, _⟩ := itS_ob j1; exact Heap.lt_size e
      · obtain ⟨_, e, _⟩ := itS_ob j2; exact Heap.lt_size e
    refine wpAny_pyNext_zipD2_item S (drawsS hd k1 i1 a (isS_ne pu j1) _) (drawsS hd k2 i2 b (isS_ne pv j2) _) jz jI jO ⟨j1, pu⟩ ⟨j2, pv⟩ lu lv fun u' v' h' tk qu qv z' O' t1 t2 hT hsz hk => ?_
    have eu : u' = u := by
      have q : us[i]? = some u' := by simpa using qu
      rw [hu] at q; exact (Option.some.inj q).symm
    have ev : v' = v := by
      have q : vs[i]? = some v' := by simpa using qv
      rw [hv] at q; exact (Option.some.inj q).symm
    subst eu ev
    refine ⟨_, rfl, wpAny_letOwnedTupleGo_zip (s := { s with heap := h', toks := tk }) z' fun h2 z2 sb => ?_⟩
    have hT2 : h2.get? s.heap.objs.size = some { cls := .type "tuple", data := .seq #[u', v'] } := (sb.2 _ (Nat.ne_of_gt lz)).trans hT
    have new : ObjOk X.prog X.w (upd H s.heap.objs.size (.frz { cls := .type "tuple", data := .seq #[u', v'] } (.tup [x, y]))) h2 s.heap.objs.size (.frz { cls := .type "tuple", data := .seq #[u', v'] } (.tup [x, y])) :=
      ⟨hT2, by show 2 ≤ sizeLine; decide, [u', v'], .cons wu (.cons wv .nil), ⟨_, hT2, rfl, _, rfl⟩⟩
    have kp : ∀ c o, c ∉ [z, TI, TO, i1, i2] → s.heap.get? c = some o → h2.get? c = some o := fun c o hn q => by
      simp only [List.mem_cons, List.mem_nil_iff, or_false, not_or] at hn
      exact (sb.2 c hn.1).trans (hk c o hn.1 hn.2.2.1 hn.2.2.2.1 hn.2.2.2.2 q)
    have I1 : Inv X pins σ (upd H s.heap.objs.size (.frz { cls := .type "tuple", data := .seq #[u', v'] } (.tup [x, y]))) { s with heap := h2, toks := tk } :=
      I.turnedNew (ch := [z, TI, TO, i1, i2]) kp hf (Nat.le_refl _) new
    refine ⟨.ref s.heap.objs.size, _, I1, rfl, ⟨_, x, y, _, rfl, I.hok.fresh (Nat.le_refl _), rfl, rfl, fun l q => by rw [sqS_inj I q gx]; exact hx, fun l q => by rw [sqS_inj I q gy]; exact hy⟩, ⟨z2, ?_, ⟨u', v', ?_⟩, ?_, ?_⟩, fun c hm => ?_⟩
    · exact (sb.2 _ S.TIz).trans (hk _ _ S.TIz S.TITO S.TIi1 S.TIi2 jI)
    · exact (sb.2 _ S.TOz).trans O'
    · exact itS_at t1.1 fun o q => (sb.2 _ (Ne.symm S.zi1)).trans q
    · exact itS_at t2.1 fun o q => (sb.2 _ (Ne.symm S.zi2)).trans q
    · rw [upd_ne (Nat.ne_of_lt (lo c hm))]
      exact (hf c hm).1
  done := by
    intro X hP hw hK hc i pins s σ H E I hf st hg
    subst hP hw hK
    obtain ⟨jz, jI, ⟨x0, y0, jO⟩, j1, j2⟩ := st
    obtain ⟨xs, ys, gx, gy, hi⟩ := hg
    obtain ⟨us, ru, pu⟩ := sqS_get I gx
    obtain ⟨vs, rv, pv⟩ := sqS_get I gy
    have nu : us.toArray.size = xs.length := by rw [List.size_toArray, ru.length]
    have nv : vs.toArray.size = ys.length := by rw [List.size_toArray, rv.length]
    have hd : X.A.in1.handled = none := I.ok.hd hc
    refine wpAny_pyNext_zipD2_end S (drawsS hd k1 i1 a (isS_ne pu j1) _) (drawsS hd k2 i2 b (isS_ne pv j2) _) jz jI jO ⟨j1, pu⟩ ⟨j2, pv⟩ (by omega) (by omega) (by omega) fun h' tk hk => ⟨rfl, I.turnedL (t' := tk) (ch := [z, TI, TO, i1, i2]) (fun c o hn q => ?_) hf⟩
    simp only [List.mem_cons, List.mem_nil_iff, or_false, not_or] at hn
    exact hk c o hn.1 hn.2.2.1 hn.2.2.2.1 hn.2.2.2.2 q
  self := fun A i s Q E st h => wpAny_pyIter_zip st.1 h

noncomputable def iZip2 (K : PySem.W.Frag) (ta : TA) : TI := fun σ H R => ta σ H fun vs H1 => ∃ (a b : Addr) (k1 k2 : Sk), vs = [.ref a, .ref b] ∧ (∃ xs, SqS K k1 H1 a xs) ∧ (∃ ys, SqS K k2 H1 b ys) ∧ R (ItZ2 K k1 k2 a b) H1
theorem pi_zip2 {X : Cx} {e e2 : Expr} {ta : TA} {p pos tpos : Pos} {elts : List Expr} {kk : Nat} (hg : Gl X "zip") (hm : X.mg "zip" = none) (ha : PA X [e, e2] ta)
    (hs : starEach [e, e2] X.env = (false, eval e X.env) :: starEach [e2] X.env := by rfl) (hp2 : (backTo pos (starEach [e2] X.env)).any (·.1) = false := by rfl) :
    PI X (.Tuple elts kk tpos) (.Call (.Name "zip" p) [e, e2] [] pos) (iZip2 X.K ta) := by
  refine ⟨fun pins s σ H R I h => ?_⟩
  refine Call_ (ld_blt I hg hm PyProof.Rows.boot_zip (PyProof.Rows.callWith_type1 (thn (ha.run pos pins s σ H _ I h) fun us s1 ⟨vs, H1, I1, r1, q1⟩ => ?_) hs hp2))
  obtain ⟨a, b, k1, k2, ex, ⟨xs, gx⟩, ⟨ys, gy⟩, q⟩ := q1
  subst ex
  cases r1 with
  | cons r rr =>
    cases rr with
    | cons r' rr =>
      cases rr
      cases r
      cases r'
      obtain ⟨us', ru, pu⟩ := sqS_get I1 gx
      obtain ⟨vs', rv, pv⟩ := sqS_get I1 gy
      have la : a < s1.heap.objs.size := by obtain ⟨_, e, _⟩ := isS_ob pu; exact Heap.lt_size e
      have lb : b < s1.heap.objs.size := by obtain ⟨_, e, _⟩ := isS_ob pv; exact Heap.lt_size e
      refine zip_begins2 (beginsS k1 a us'.toArray) (beginsS k2 b vs'.toArray) pu pv fun h' jz jI jO e1 e2 hsz hk => wpAny_pyIter_zip jz ?_
      refine ⟨s1.heap.objs.size + 4, [s1.heap.objs.size + 4, s1.heap.objs.size + 2, s1.heap.objs.size + 3, s1.heap.objs.size, s1.heap.objs.size + 1], _, _, H1, rfl, I1.kept (t' := s1.toks) hk, turnZ2 (zip_sep2 (by simpa using la) (by simpa using lb)), ⟨jz, jI, ⟨_, _, jO⟩, itS_0 e1, itS_0 e2⟩, fun c hm => ?_, q⟩
      have hle : s1.heap.objs.size ≤ c := by
        simp only [List.mem_cons, List.mem_nil_iff, or_false] at hm
        rcases hm with z | z | z | z | z <;> rw [z] <;> first | exact Nat.le_refl _ | exact Nat.le_add_right _ _
      exact I1.fpOk hle (I1.hok.fresh hle)
noncomputable def ItZ3 (K : PySem.W.Frag) (k1 k2 k3 : Sk) (a b c : Addr) : It :=
  ⟨fun i H => ∃ (xs ys zs : List V) (x y z : V), SqS K k1 H a xs ∧ SqS K k2 H b ys ∧ SqS K k3 H c zs ∧ xs[i]? = some x ∧ ys[i]? = some y ∧ zs[i]? = some z,
    fun i H v H' => ∃ (T : Addr) (x y z : V) (o : Obj), v = .ref T ∧ H T = none ∧ o.dict = none ∧ H' = upd H T (.frz o (.tup [x, y, z])) ∧ (∀ xs, SqS K k1 H a xs → xs[i]? = some x) ∧ (∀ ys, SqS K k2 H b ys → ys[i]? = some y) ∧ ∀ zs, SqS K k3 H c zs → zs[i]? = some z,
    fun i H => ∃ xs ys zs : List V, SqS K k1 H a xs ∧ SqS K k2 H b ys ∧ SqS K k3 H c zs ∧ i = min xs.length (min ys.length zs.length)⟩
noncomputable def iZip3 (K : PySem.W.Frag) (ta : TA) : TI := fun σ H R => ta σ H fun vs H1 => ∃ (a b c : Addr) (k1 k2 k3 : Sk), vs = [.ref a, .ref b, .ref c] ∧ (∃ xs, SqS K k1 H1 a xs) ∧ (∃ ys, SqS K k2 H1 b ys) ∧ (∃ zs, SqS K k3 H1 c zs) ∧ R (ItZ3 K k1 k2 k3 a b c) H1
noncomputable def SqD (C : Ctx) (G : Gp) : Sk → Addr → List V → Prop
  | .l => fun a xs => LkG G a xs
  | .t => fun a xs => TpG C G a xs
theorem SqD.mono {C : Ctx} {G G' : Gp} {k : Sk} {a : Addr} {xs : List V} (e : Sub G G') (h : SqD C G k a xs) : SqD C G' k a xs := by
  cases k
  · exact LkG.mono e h
  · exact TpG.mono e h
theorem SqD.sq {C : Ctx} {G : Gp} {H : Hp} {k : Sk} {a : Addr} {xs : List V} (ok : Ok G H) (h : SqD C G k a xs) : SqS C.K k H a xs := by
  cases k
  · exact SqL.of (ok.lk h)
  · exact TpG.seq ok h
theorem R.itemsS {C : Ctx} {G : Gp} {v : V} {d : D} {ds : List D} (r : R C G v d) (e : itemsD d = some ds) : ∃ (a : Addr) (k : Sk) (xs : List V), v = .ref a ∧ SqD C G k a xs ∧ RAll C G xs ds := by
  obtain ⟨a, xs, e, h, r⟩ := r.items e
  rcases h with h | h
  · exact ⟨a, .l, xs, e, h, r⟩
  · exact ⟨a, .t, xs, e, h, r⟩
noncomputable def zipD : List D → List D → List D
  | d :: ds, e :: es => .tup [d, e] :: zipD ds es
  | _, _ => []
theorem zipD_len : ∀ ds es : List D, (zipD ds es).length = min ds.length es.length
  | d :: ds, e :: es => by
    show (zipD ds es).length + 1 = _
    rw [zipD_len ds es, List.length_cons, List.length_cons]
    omega
  | [], _ => by simp [zipD]
  | _ :: _, [] => by simp [zipD]
theorem zipD_get : ∀ (ds es : List D) (i : Nat) (d e : D), ds[i]? = some d → es[i]? = some e → (zipD ds es)[i]? = some (.tup [d, e])
  | d :: ds, e :: es, 0, d', e', h, h' => by
    cases h
    cases h'
    rfl
  | d :: ds, e :: es, i + 1, d', e', h, h' => zipD_get ds es i d' e' h h'
  | [], _, i, d, e, h, _ => by cases h
  | _ :: _, [], i, d, e, _, h => by cases h
theorem itd_zip2 {C : Ctx} {G : Gp} {k1 k2 : Sk} {a b : Addr} {xs ys : List V} {ds es : List D} (h1 : SqD C G k1 a xs) (h2 : SqD C G k2 b ys) (r1 : RAll C G xs ds) (r2 : RAll C G ys es) : ItD C G (ItZ2 C.K k1 k2 a b) (zipD ds es) := by
  have hl : (zipD ds es).length = min xs.length ys.length := by rw [zipD_len, r1.length, r2.length]
  refine ⟨fun H => SqS C.K k1 H a xs ∧ SqS C.K k2 H b ys, fun i H v H' => ∃ (T : Addr) (x y : V) (o : Obj), v = .ref T ∧ H T = none ∧ o.dict = none ∧ H' = upd H T (.frz o (.tup [x, y])) ∧ xs[i]? = some x ∧ ys[i]? = some y,
    ⟨fun i H hi q => ?_, fun H q => ⟨xs, ys, q.1, q.2, hl⟩, fun i H x H' hi q ⟨T, x, y, o, e1, e2, e3, e4, e5, e6⟩ => ⟨T, x, y, o, e1, e2, e3, e4, e5 xs q.1, e6 ys q.2⟩⟩, fun G1 H1 k ok => ⟨(h1.mono k).sq ok, (h2.mono k).sq ok⟩, fun i G1 H1 x H2 hi k ok q => ?_⟩
  · exact ⟨xs, ys, xs[i]'(by omega), ys[i]'(by omega), q.1, q.2, by simp [show i < xs.length by omega], by simp [show i < ys.length by omega]⟩
  · obtain ⟨T, x, y, o, rfl, hT, ho, rfl, hx, hy⟩ := q
    obtain ⟨d, hd, rd⟩ := r1.getV hx
    obtain ⟨e, he, re⟩ := r2.getV hy
    obtain ⟨x1, x2⟩ := Ext.newT (C := C) (o := o) ok hT ho (.cons (rd.mono k) (.cons (re.mono k) .nil))
    exact ⟨_, _, zipD_get _ _ _ _ _ hd he, x1, x2⟩
noncomputable def pZip2 (pe pf : PX) : PLx := fun δ P P2 => pe δ (fun d => pf δ (fun e => match itemsD d, itemsD e with | some ds, some es => P (zipD ds es) | _, _ => False) P2) P2
theorem li_zip2 {X : Cx} {E : L2.St → XK} {e f : Expr} {te tf : TE} {pe pf : PX} {p pos tpos : Pos} {elts : List Expr} {kk : Nat} (hg : Gl X "zip") (hm : X.mg "zip" = none) (he : LX X E e te pe) (hf : LX X E f tf pf)
    (hs : starEach [e, f] X.env = (false, eval e X.env) :: starEach [f] X.env := by rfl) (hs2 : starEach [f] X.env = (false, eval f X.env) :: starEach [] X.env := by rfl) (hp2 : (backTo pos (starEach [f] X.env)).any (·.1) = false := by rfl) :
    LI X E (.Tuple elts kk tpos) (.Call (.Name "zip" p) [e, f] [] pos) (iZip2 X.K (tCons te (tCons tf tNil))) (pZip2 pe pf) := by
  refine ⟨pi_zip2 hg hm (pa_cons he.py (pa_cons hf.py pa_nil hs2) hs) hs hp2, fun {δ σ G H H0 Q P P2} k s x p q => he.le k s x p fun v d G' H' y r p' => ?_⟩
  refine hf.le y.ok (s.ext y) (x.ext y) p' fun v2 d2 G2 H2 y2 r2 p2 => ?_
  split at p2
  · rename_i ds es e1 e2
    obtain ⟨a, k1, xs, rfl, h1, w1⟩ := r.itemsS e1
    obtain ⟨b, k2, ys, rfl, h2, w2⟩ := r2.itemsS e2
    have h1' := h1.mono (fun a g z => y2.g a g z)
    refine ⟨a, b, k1, k2, rfl, ⟨xs, h1'.sq y2.ok⟩, ⟨ys, h2.sq y2.ok⟩, q _ _ _ _ (y.trans y2) (itd_zip2 h1' h2 (w1.mono (fun a g z => y2.g a g z)) w2) p2⟩
  · exact p2.elim
noncomputable def zipD3 : List D → List D → List D → List D
  | d :: ds, e :: es, f :: fs => .tup [d, e, f] :: zipD3 ds es fs
  | _, _, _ => []
noncomputable def pZip3 (pe pf pg : PX) : PLx := fun δ P P2 => pe δ (fun d => pf δ (fun e => pg δ (fun f => match itemsD d, itemsD e, itemsD f with | some ds, some es, some fs => P (zipD3 ds es fs) | _, _, _ => False) P2) P2) P2
noncomputable def pRevL (pe : PX) : PX := fun δ P P2 => pe δ (fun d => match d with | .lst ds => P (.lst ds.reverse) | _ => False) P2
theorem lx_revL {X : Cx} {E : L2.St → XK} {e : Expr} {te : TE} {pe : PX} {k : Nat} {p1 p2 p3 pos : Pos} (he : LV X E e te pe) : LX X E (.Subscript e (.Slice none none (some (.UnaryOp .USub (.Constant (.int 1) k p1) p2)) p3) pos) (L2.tRevL X.K te) (pRevL pe) := by
  refine ⟨L2.pe_revL he.py, fun {δ σ G H H0 Q P P2} k s x p q => he.le k s x p fun v d G1 H1 y1 r1 p1 => ?_⟩
  split at p1
  · obtain ⟨a, xs, rfl, h, rr⟩ := r1.lst y1.ok
    exact ⟨a, xs, rfl, SqL.of h, fun l hl => q _ (.lst _) _ _ (y1.trans (Ext.newG y1.ok hl)) (.lst updG_same (rr.reverse.mono (updG_keep (y1.ok.none_of hl)))) p1⟩
  · exact p1.elim
end Pu
set_option Elab.async false
set_option linter.all false
set_option maxRecDepth 100000
set_option maxHeartbeats 1000000
set_option autoImplicit false
namespace Pu
open PySem L2 PyProof.Rows
structure XA (A : Addr) (G : Gp) (H : Hp) (G' : Gp) (H' : Hp) : Prop where
  g : ∀ a o, G a = some o → G' a = some o
  h : ∀ b o, b ≠ A → H b = some o → G b = none → H' b = some o ∧ G' b = none
theorem XA.of {A : Addr} {G G' : Gp} {H H' : Hp} (x : Ext G H G' H') : XA A G H G' H' := ⟨x.g, fun b o _ => x.h b o⟩
theorem XA.trans {A : Addr} {G G1 G2 : Gp} {H H1 H2 : Hp} (x : XA A G H G1 H1) (y : XA A G1 H1 G2 H2) : XA A G H G2 H2 :=
  ⟨fun a o h => y.g a o (x.g a o h), fun b o n h g => let ⟨h1, g1⟩ := x.h b o n h g; y.h b o n h1 g1⟩
noncomputable def tiOf (C : Ctx) (E : L2.St → XK) (pi : PLx) : TI := fun σ H Q => ∃ (δ : Dl) (G : Gp) (H0 : Hp) (P : List D → Prop) (P2 : Exn → Prop), Ok G H ∧ SRel C H0 G H σ δ ∧ EOk C G H (E σ) P2 ∧ pi δ P P2 ∧ ∀ J ds G' H', Ext G H G' H' → ItD C G' J ds → P ds → Q J H'
theorem LI.sem {X : Cx} {E : L2.St → XK} {tg it : Expr} {wi : TI} {pi : PLx} (h : LI X E tg it wi pi) : LI X E tg it (tiOf (cx X) E pi) pi :=
  ⟨⟨fun pins s σ H R I ⟨δ, G, H0, P, P2, k, r, x, p, q⟩ => h.py.run pins s σ H R I (h.le k r x p q)⟩, fun k s x p q => ⟨_, _, _, _, _, k, s, x, p, q⟩⟩
noncomputable def pLcIn (pg : PG') (pt : PTx) (pe : PX) (δw : Dl) (K : List D → Prop) : List D → List D → Prop
  | [], es => K es
  | d :: ds, es => pg d δw fun δ' => pt δ' (fun b => if b = true then pe δ' (fun y => es.length < szl ∧ pLcIn pg pt pe δw K ds (es ++ [y])) (fun _ => False) else pLcIn pg pt pe δw K ds es) fun _ => False
noncomputable def pLcOut (pg : PG') (pt : PTx) (pi1 : PLx) (pg1 : PG') (pt1 : PTx) (pe : PX) (δw : Dl) (vs1 : List Nat) (P : D → Prop) : List D → List D → Prop
  | [], es => P (.lst es)
  | d :: ds, es => pg d δw fun δ' => pt δ' (fun b => if b = true then pi1 δ' (fun ds1 => pLcIn pg1 pt1 pe (wipeD δ' vs1) (fun es' => pLcOut pg pt pi1 pg1 pt1 pe δw vs1 P ds es') ds1 es) (fun _ => False) else pLcOut pg pt pi1 pg1 pt1 pe δw vs1 P ds es) fun _ => False
noncomputable def pLc2 (pi : PLx) (pg : PG') (pt : PTx) (pi1 : PLx) (pg1 : PG') (pt1 : PTx) (pe : PX) (vs vs1 : List Nat) : PX := fun δ P P2 => pi δ (fun ds => pLcOut pg pt pi1 pg1 pt1 pe (wipeD δ vs) vs1 P ds []) P2
section
variable {X : Cx} {E : L2.St → XK} {elt tg iter tg1 iter1 : Expr} {ifs ifs1 : List Expr} {scope : Scope} {own : List (Str × Nat)} {pos : Pos} {wi : TI} {pi pi1 : PLx} {pg pg1 : PG'} {pt pt1 : PTx} {pe : PX} {js js1 vs1 : List Nat}
end
end Pu
set_option Elab.async false
set_option linter.all false
set_option maxRecDepth 100000
set_option maxHeartbeats 1000000
set_option autoImplicit false
namespace Pu
open PySem PySem.Spec PyProof.Rows L2
structure SmT (K : PySem.W.Frag) (mgv : Str → Option Value) (c : Nat) (A : Addr) (m : Str) (f : Addr) : Prop where
  mg : mgv (cname c) = some (.ref A)
  rd : ∃ mc pp, ClX.CRead K A mc ∧ PySem.W.findCls K (.ref A) mc m = some (.get (.builtin "staticmethod.__get__") (.ref pp) .none (.ref A)) ∧ ∃ rest, PySem.W.recIn K pp "staticmethod" = some (.ref f :: rest)
  kp : PySem.W.keepIn K (.ref f) = true
section
variable {X : Cx} {W : WX} {k : Nat} {f : Addr} {fd : FuncData} {ps : List Str} {m : Str} {pos apos : Pos} {o e : Expr} {es : List Expr} {ta : TE} {t : TA} {psp : PSp} {pa : PAx}
noncomputable def tSMS (C : Addr) (sp : Sp) (E : L2.St → XK) (ta : TE) (t : TA) : TE := fun σ H Q => ta σ H fun v H1 => v = .ref C ∧ t σ H1 fun vs H2 => sp vs H2 Q (E σ)
end
end Pu
set_option Elab.async false
set_option linter.all false
set_option maxRecDepth 100000
set_option maxHeartbeats 1000000
set_option autoImplicit false
namespace Pu
open PySem PySem.Spec PyProof.Rows L2
section
variable {X : Cx} {E : L2.St → XK}
noncomputable def pLRg1 (pe : PX) : PX := fun δ P P2 => pe δ (fun d => match d with | .int n => RgOk 0 n ∧ P (.lst (rangeD 0 (n - 0).toNat)) | _ => False) P2
noncomputable def pLRg2 (pe pf : PX) : PX := fun δ P P2 => pe δ (fun d => pf δ (fun e => match d, e with | .int i, .int j => RgOk i j ∧ P (.lst (rangeD i (j - i).toNat)) | _, _ => False) P2) P2
end
end Pu
set_option Elab.async false
set_option linter.all false
set_option maxRecDepth 100000
set_option maxHeartbeats 1000000
set_option autoImplicit false
namespace Pu
open PySem PySem.Spec PyProof.Rows L2
noncomputable abbrev Cl := Value × (Addr → Value → Option Addr → TS)
noncomputable def wAll (K : PySem.W.Frag) (i : Nat) (Wo : WX) (D : Ends) : List Cl → WX
  | [] => Wo
  | q :: r => wAs K q.1 i q.2 (wAll K i Wo D r) D
inductive ClOk (X : Cx) (n : Str) : List ExceptHandler → List Cl → Prop
  | nil : ClOk X n [] []
  | cons {x : Str} {cv : Value} {ts : Addr → Value → Option Addr → TS} {b₀ : Stmt} {su : List Stmt} {np pos' : Pos} {hds : List ExceptHandler} {l : List Cl} (hc : Names X x cv)
      (hsu : ∀ (a : Addr) (oe : Obj) (cls : Value) (d : Option Addr) (pn : List (Addr × Obj)), Zc cls d oe → (∃ vs, oe.data = .fields vs) → PSs (X.suite a ((a, oe) :: pn)) (b₀ :: su) (ts a cls d)) (r : ClOk X n hds l) :
      ClOk X n (.ExceptHandler (some (.Name x np)) (some n) (b₀ :: su) pos' :: hds) ((cv, ts) :: l)
section
variable {X : Cx} {body : List Stmt} {hd : ExceptHandler} {hds : List ExceptHandler} {l : List Cl} {pos : Pos} {n : Str} {i : Nat} {tb : WX → TS} {Wo : WX}
end
noncomputable abbrev PCl := (Nat → Option Bool) × (Addr → Value → Option Addr → PSx)
noncomputable def pCls (i : Nat) (P : PEnds) : List PCl → Dl → Exn → Prop
  | [] => P.ex
  | q :: r => fun δ e => match q.1 e.c with
    | some true => ∀ a cls d, q.2 a cls d { nx := fun δ2 => P.nx (δ2.set i none), rt := P.rt, bk := fun δ2 => P.bk (δ2.set i none), ct := fun δ2 => P.ct (δ2.set i none), ex := fun _ _ => False } (δ.set i (some (.exc a cls d e)))
    | some false => pCls i P r δ e
    | none => False
noncomputable def pTryAll (i : Nat) (pb : PSx) (cs : List PCl) : PSx := fun P δ => pb { P with ex := pCls i P cs } δ
inductive LCl (X : Cx) (n : Str) : List ExceptHandler → List Value → List PCl → Prop
  | nil : LCl X n [] [] []
  | cons {x : Str} {cv : Value} {f : Nat → Option Bool} {ps : Addr → Value → Option Addr → PSx} {b₀ : Stmt} {su : List Stmt} {np pos' : Pos} {hds : List ExceptHandler} {vs : List Value} {l : List PCl} (hc : Names X x cv) (T : CatT X.K X.mg cv f)
      (hsu : ∀ (a : Addr) (oe : Obj) (cls : Value) (d : Option Addr) (pn : List (Addr × Obj)), Zc cls d oe → (∃ vs, oe.data = .fields vs) → ∃ t, LSs (X.suite a ((a, oe) :: pn)) (WE WN) (b₀ :: su) t (ps a cls d)) (r : LCl X n hds vs l) :
      LCl X n (.ExceptHandler (some (.Name x np)) (some n) (b₀ :: su) pos' :: hds) (cv :: vs) ((f, ps) :: l)
noncomputable def clOf (C : Ctx) : List Value → List PCl → List Cl
  | v :: vs, q :: l => (v, fun a cls d => tsOf C (WE WN) (q.2 a cls d)) :: clOf C vs l
  | _, _ => []
theorem LCl.py {X : Cx} {n : Str} {hds : List ExceptHandler} {vs : List Value} {l : List PCl} (h : LCl X n hds vs l) : ClOk X n hds (clOf (cx X) vs l) := by
  induction h with
  | nil => exact .nil
  | cons hc T hsu r ih => exact .cons hc (fun a oe cls d pn h1 h2 => let ⟨_, h⟩ := hsu a oe cls d pn h1 h2; h.sem.py) ih
end Pu
set_option Elab.async false
set_option linter.all false
set_option maxRecDepth 100000
set_option maxHeartbeats 2000000
set_option autoImplicit false
namespace Pu
open PySem PySem.Spec PyProof.Rows L2
noncomputable def pTryEn (f : Nat → Option Bool) (ps : PSx) (P : PEnds) : Dl → Exn → Prop := fun δ' e => match f e.c with
  | some true => ps { P with ex := fun _ _ => False } δ'
  | some false => P.ex δ' e
  | none => False
noncomputable def pTryOn (f : Nat → Option Bool) (pb ps : PSx) : PSx := fun P δ => pb { P with ex := pTryEn f ps P } δ
section
variable {X : Cx} {W : WX} {x : Str} {cv : Value} {body suite : List Stmt} {b₀ : Stmt} {np pos pos' : Pos} {pb ps : PSx} {f : Nat → Option Bool}
end
end Pu
set_option Elab.async false
set_option linter.all false
set_option maxRecDepth 100000
set_option maxHeartbeats 2000000
set_option autoImplicit false
namespace Pu
open PySem PySem.Spec L2
noncomputable abbrev PSpO := List D → List D → (D → Prop) → (Exn → Prop) → Prop
noncomputable def startO (N : Nat) (ds es : List D) : Dl := (startD N ds).set ds.length (some (.own none es))
noncomputable def wpBO (N : Nat) (pb : PSx) : PSpO := fun ds es P P2 => pb { nx := fun _ => P .non, rt := fun _ => P, bk := fun _ => False, ct := fun _ => False, ex := fun _ => P2 } (startO N ds es)
noncomputable def liftSpO (C : Ctx) (p : PSpO) (n : Nat) : Sp := fun vs H Q E => vs.length = n + 1 ∧ ∃ (Gb : Gp) (Hb : Hp) (G : Gp) (ds es : List D) (P : D → Prop) (P2 : Exn → Prop) (vs0 : List V) (l : Addr) (xs : List V),
  vs = vs0 ++ [.ref l] ∧ Hb l = none ∧ H l = some (.lst xs) ∧ G l = none ∧ Ext Gb Hb G H ∧ RAll C G vs0 ds ∧ RAll C G xs es ∧ p ds es P P2 ∧
  (∀ v d G' H', Ext Gb Hb G' H' → R C G' v d → P d → Q v H') ∧ EOk C Gb Hb E P2
section
variable {P : Program} {w : World} {K : PySem.W.Frag} {mg : Str → Option Value} {base : Heap}
end
section
variable {X : Cx} {W : WX} {k n : Nat} {f : Addr} {fd : FuncData} {ps : List Str} {x : Str} {p pos : Pos} {e : Expr} {es : List Expr} {te : TE} {t : TA} {psp : PSpO} {pe po : PX}
noncomputable abbrev PAo := Dl → (List D → List D → Prop) → (Exn → Prop) → Prop
structure LAnO (X : Cx) (E : St → XK) (es : List Expr) (ta : TA) (pao : PAo) (n : Nat) : Prop where
  py : PA X es ta
  le : ∀ {δ : Dl} {σ : St} {G : Gp} {H H0 : Hp} {Q : List V → Hp → Prop} {P : List D → List D → Prop} {P2 : Exn → Prop}, Ok G H → SRel (cx X) H0 G H σ δ → EOk (cx X) G H (E σ) P2 → pao δ P P2 →
    (∀ vs ds l xs es G1 H1 G' H', vs.length = n → Ext G H G1 H1 → Ext G1 H1 G' H' → H1 l = none → H' l = some (.lst xs) → G' l = none → RAll (cx X) G' vs ds → RAll (cx X) G' xs es → P ds es → Q (vs ++ [.ref l]) H') → ta σ H Q
noncomputable def pOne (po : PX) : PAo := fun δ P P2 => po δ (fun d => match d with | .lst es => P [] es | _ => False) P2
noncomputable def pConsO (pe : PX) (pa : PAo) : PAo := fun δ P P2 => pe δ (fun d => pa δ (fun ds es => P (d :: ds) es) P2) P2
noncomputable def pCallO (psp : PSpO) (pa : PAo) : PX := fun δ P P2 => pa δ (fun ds es => psp ds es P P2) P2
end
end Pu
set_option Elab.async false
set_option linter.all false
set_option maxRecDepth 100000
set_option maxHeartbeats 2000000
set_option autoImplicit false
namespace Pu
open PySem PySem.Spec PyProof.Rows L2
noncomputable abbrev PM := Dl → (D → Dl → Prop) → (Exn → Prop) → Prop
structure LXm (X : Cx) (E : L2.St → XK) (e : Expr) (te : TE) (pe : PM) : Prop where
  py : PE X e te
  le : ∀ {G0 : Gp} {H0 : Hp} {δ : Dl} {σ : L2.St} {G : Gp} {H : Hp} {Q : VK} {P : D → Dl → Prop} {P2 : Exn → Prop}, Stt (cx X) G0 H0 σ δ G H → EOk (cx X) G H (E σ) P2 → pe δ P P2 →
    (∀ v d δ' G' H', Stt (cx X) G0 H0 σ δ' G' H' → R (cx X) G' v d → P d δ' → Q v H') → te σ H Q
section
variable {X : Cx} {E : L2.St → XK} {sn : Str} {p1 p apos pos : Pos} {te : TE} {pe : PX} {e : Expr}
noncomputable def popMK (ds : List D) (F : D → List D → Prop) : D → Prop := fun d => match d with
  | .int k => -(2 ^ 63) ≤ k ∧ k < 2 ^ 63 ∧ (match ixN ds.length k with | some j => (match ds[j]? with | some x => F x (ds.eraseIdx j) | none => False) | none => False)
  | _ => False
noncomputable def pmPop (i : Nat) (pe : PX) : PM := fun δ P P2 => match δ[i]? with
  | some (some (.own oa ds)) => pe δ (popMK ds fun x es => P x (δ.set i (some (.own oa es)))) P2
  | _ => False
theorem lxm_popAt (i : Nat) (he : LX X E e te pe) (hN : X.N[i]? = some sn := by rfl) (hv : Vis X.env.scope sn := by first | exact Or.inl rfl | exact Or.inr (Or.inl rfl) | exact Or.inr (Or.inr rfl)) (hd : (sn == ("__debug__" : Str)) = false := by decide) (hcd : (sn == ("__classdict__" : Str)) = false := by decide)
    (hbase : attributeBase (.Name sn p1) "pop" X.env (eval (.Name sn p1) X.env) = eval (.Name sn p1) X.env := by rfl)
    (hfew : ((backTo p (starEach [e] X.env)).all (fun x => !x.1) && (backToKw p (keywordEach [] X.env)).all (fun x => x.1.isSome)
      && decide ([e].length + ([] : List Keyword).length + (if ([] : List Keyword).isEmpty then 0 else 1) < 30)) = true := by rfl)
    (hline : (apos.endLine == p.line) = true := by rfl) (hs : starEach [e] X.env = (false, eval e X.env) :: starEach [] X.env := by rfl) (hplain : (backTo p (starEach [] X.env)).any (·.1) = false := by rfl) :
    LXm X E (.Call (.Attribute (.Name sn p1) "pop" apos) [e] [] p) (tBM X.K "list" rPopAt (tVar i) (tCons te tNil)) (pmPop i pe) := by
  refine ⟨pe_bm PySem.F.plainAttrs_list PySem.F.slot_list_pop PySem.F.type_list_pop mt_popAt (pe_var hN hv hd hcd) (pa_cons he.py pa_nil hs) hbase hfew hline hs hplain, fun {G0 H0 δ σ G H Q P P2} t en p q0 => ?_⟩
  unfold pmPop at p
  split at p
  · rename_i oa ds ed
    obtain ⟨a, xs, ev, hoa, h, g, n, r⟩ := t.sr.own ed
    refine ⟨_, ev, tyV_lst h, he.le t.ok t.sr en p fun v d G' H' y rd q => ?_⟩
    obtain ⟨h', g'⟩ := y.h _ _ h g
    have t1 := t.step y
    unfold popMK at q
    split at q
    · obtain rfl := rd.intR
      obtain ⟨q1, q2, q⟩ := q
      split at q
      · rename_i j ej
        split at q
        · rename_i x ex
          rw [← r.length] at ej
          obtain ⟨e1, e2⟩ := ixN_seq' ej
          obtain ⟨v, ev2, rv⟩ := r.get ex
          have z : xs[j] = v := by rw [List.getElem?_eq_getElem e2] at ev2; exact Option.some.inj ev2
          refine ⟨a, xs, _, j, xs[j], rfl, rfl, h', q1, q2, e1, List.getElem?_eq_getElem e2, ?_⟩
          rw [z]
          exact q0 _ _ _ _ _ ⟨t1.ext.write n g', t1.sr.write ed ev ((r.mono y.g).eraseIdx j)⟩ (rv.mono y.g) q
        · exact q.elim
      · exact q.elim
    · exact q.elim
  · exact p.elim
noncomputable def pAsgM (pe : PM) (i : Nat) : PSx := fun P δ => pe δ (fun d δ' => P.nx (δ'.set i (some (.d d)))) (P.ex δ)
noncomputable def pAppM (i : Nat) (pe : PM) : PSx := fun P δ => match δ[i]? with
  | some (some (.own _ _)) => pe δ (fun d δ' => match δ'[i]? with
      | some (some (.own oa ds)) => ds.length < szl ∧ P.nx (δ'.set i (some (.own oa (ds ++ [d]))))
      | _ => False) (P.ex δ)
  | _ => False
theorem ls_appM (i : Nat) {pe : PM} (he : LXm X E e te pe) (hN : X.N[i]? = some sn := by rfl) (hv : Vis X.env.scope sn := by first | exact Or.inl rfl | exact Or.inr (Or.inl rfl) | exact Or.inr (Or.inr rfl)) (hd : (sn == ("__debug__" : Str)) = false := by decide) (hcd : (sn == ("__classdict__" : Str)) = false := by decide)
    (hbase : attributeBase (.Name sn p1) "append" X.env (eval (.Name sn p1) X.env) = eval (.Name sn p1) X.env := by rfl)
    (hfew : ((backTo p (starEach [e] X.env)).all (fun x => !x.1) && (backToKw p (keywordEach [] X.env)).all (fun x => x.1.isSome)
      && decide ([e].length + ([] : List Keyword).length + (if ([] : List Keyword).isEmpty then 0 else 1) < 30)) = true := by rfl)
    (hline : (apos.endLine == p.line) = true := by rfl) (hs : starEach [e] X.env = (false, eval e X.env) :: starEach [] X.env := by rfl) (hplain : (backTo p (starEach [] X.env)).any (·.1) = false := by rfl)
    (hsw : swapsWith (.Call (.Attribute (.Name sn p1) "append" apos) [e] [] p) none pos.line X.env = pure false := by rfl) :
    LS X E (.Expr (.Call (.Attribute (.Name sn p1) "append" apos) [e] [] p) pos) (tDrop (tBM X.K "list" rAppend (tVar i) (tCons te tNil))) (pAppM i pe) := by
  refine ⟨ps_expr (pe_bm PySem.F.plainAttrs_list PySem.F.slot_list_append PySem.F.type_list_append mt_append (pe_var hN hv hd hcd) (pa_cons he.py pa_nil hs) hbase hfew hline hs hplain) hsw, fun {G0 H0 Dn P δ σ G H} en t p => ?_⟩
  unfold pAppM at p
  split at p
  · rename_i oa0 ds0 ed0
    obtain ⟨a0, xs0, ev0, _, h0, _, _, _⟩ := t.sr.own ed0
    refine ⟨_, ev0, tyV_lst h0, he.le t (en.ex t) p fun v d δ' G' H' t' rd q => ?_⟩
    split at q
    · rename_i oa ds ed
      obtain ⟨a, xs, ev, hoa, h, g, n, r⟩ := t'.sr.own ed
      rw [ev0] at ev
      cases ev
      exact ⟨a0, xs, v, rfl, rfl, h, by rw [r.length, sizeLine_eq]; exact q.1, en.nx ⟨t'.ext.write n g, t'.sr.write ed ev0 (r.append (.one rd))⟩ q.2⟩
    · exact q.elim
  · exact p.elim
end
section
variable {X : Cx} {k : Nat} {f : Addr} {fd : FuncData} {ps : List Str} {psp : PSp} {W : WX}
noncomputable def tAddO (C : Addr) (sp : Sp) (E : L2.St → XK) (ta tb : TE) : TE := fun σ H Q => ta σ H fun x H1 => tb σ H1 fun y H2 => ∃ (a dx : Addr) (fs : List (Str × V)) (b dx' : Addr) (fs' : List (Str × V)),
  x = .ref a ∧ H2 a = some (.ins C dx fs) ∧ y = .ref b ∧ H2 b = some (.ins C dx' fs') ∧ sp [x, y] H2 Q (E σ)
noncomputable def pAddO (c : Nat) (psp : PSp) (pa pb : PX) : PX := fun δ P P2 => pa δ (fun x => pb δ (fun y => match x, y with
  | .obj c1 d1, .obj c2 d2 => c1 = c ∧ c2 = c ∧ psp [.obj c1 d1, .obj c2 d2] P P2
  | _, _ => False) P2) P2
structure AddT (K : PySem.W.Frag) (mgv : Str → Option Value) (c : Nat) (A f : Addr) : Prop where
  mg : mgv (cname c) = some (.ref A)
  fi : PySem.W.findIn K (.ref A) "__add__" = some (some (.ref f))
  fn : PySem.W.isFn K (.ref f) = true
  sf : PySem.W.selfFirst K A = true
end
end Pu
set_option Elab.async false
set_option linter.all false
set_option maxRecDepth 100000
set_option maxHeartbeats 2000000
set_option autoImplicit true
open PySem PySem.Spec PyProof.Rows
open PySem.SeqAt
namespace Pu
section
variable {prog : Program} {w : World} {A : Around} {E : Value → Shared → Prop} {s : Shared} {K : PySem.W.Frag} {x C f l : Addr} {ox : Obj} {od : Option Obj} {Q : Value → Shared → Prop}
end
end Pu

set_option autoImplicit false

namespace Pu
open PySem PySem.Spec PyProof.Rows L2
inductive Dcl (K : PySem.W.Frag) (H : Hp) : V → String → Prop where
  | non : Dcl K H .non "NoneType"
  | int (i : Int) : Dcl K H (.int i) "int"
  | lst {a : Addr} {xs : List V} (e : H a = some (.lst xs)) : Dcl K H (.ref a) "list"
  | tup {a : Addr} {o : Obj} {xs : List V} (e : H a = some (.frz o (.tup xs))) : Dcl K H (.ref a) "tuple"
  | kTup {a : Addr} {o : Obj} {its : Array Value} {n : Nat} (e : K.lookup a = some o) (c : o.cls = .type "tuple") (d : o.data = .seq its n) : Dcl K H (.ref a) "tuple"
section
variable {X : Cx} {k : Nat} {f : Addr} {fd : FuncData} {ps : List Str} {psp : PSp}
noncomputable def rEqR (K : PySem.W.Frag) (A : Addr) (sp : Sp) : R2 := fun x y H Q => ∃ (a dx : Addr) (fs : List (Str × V)) (t : String), y = .ref a ∧ H a = some (.ins A dx fs) ∧ Dcl K H x t ∧ PySem.W.subIn K (.ref A) (.type t) = some false ∧ sp [y, x] H (fun v H' => (∃ b, v = .bl b) ∧ Q v H') E0
structure EqS (K : PySem.W.Frag) (A : Addr) : Prop where
  sb : ∀ t ∈ ["NoneType", "bool", "int", "str", "list", "tuple"], PySem.W.subIn K (.ref A) (.type t) = some false
structure OLX (X : Cx) (r : R2) (f : POp) : Prop where
  le : ∀ {G : Gp} {H : Hp} {x y : V} {dx dy : D} {Q : VK} {P : D → Prop}, Ok G H → R (cx X) G x dx → R (cx X) G y dy → f dx dy P →
    (∀ v d G' H', Ext G H G' H' → R (cx X) G' v d → P d → Q v H') → r x y H Q
noncomputable def isDcl : D → Bool
  | .non => true
  | .int _ => true
  | .lst _ => true
  | .tup _ => true
  | _ => false
noncomputable def fEqA (c : Nat) (cs : List Nat) (psp : PSp) : POp := fun x y P => match x, y with
  | .obj c' fs, y => c' = c ∧ (isCl c cs y).isSome = true ∧ psp [.obj c' fs, y] (fun d => ∃ b, d = .bl b ∧ P (.bl b)) (fun _ => False)
  | x, .obj c' fs => c' = c ∧ isDcl x = true ∧ psp [.obj c' fs, x] (fun d => ∃ b, d = .bl b ∧ P (.bl b)) (fun _ => False)
  | _, _ => False
end
end Pu
namespace Pu
open PySem PySem.Spec PyProof.Rows L2
section
variable {X : Cx} {E : L2.St → XK}
end
end Pu
namespace Pu
open PySem PySem.Spec PyProof.Rows L2
noncomputable def pNever : PSx := fun _ _ => False
end Pu
set_option Elab.async false
set_option linter.all false
set_option maxRecDepth 100000
set_option maxHeartbeats 2000000
set_option autoImplicit false
namespace Pu
open PySem PySem.Spec PyProof.Rows L2
mutual
noncomputable def viewD : D → D
  | .lst ds => .vw (viewL ds)
  | .vw ds => .vw (viewL ds)
  | .tup ds => .tup (viewL ds)
  | .obj c ds => .obj c (viewL ds)
  | .non => .non
  | .bl b => .bl b
  | .int i => .int i
  | .str x => .str x
  | .pool => .pool
  | .cls c => .cls c
  | .script ns => .script ns
  | .pin a ns => .pin a ns
noncomputable def viewL : List D → List D
  | [] => []
  | d :: ds => viewD d :: viewL ds
end
theorem viewL_length : ∀ ds : List D, (viewL ds).length = ds.length
  | [] => rfl
  | _ :: ds => congrArg (· + 1) (viewL_length ds)
mutual
noncomputable def noV : D → Bool
  | .non => true
  | .bl _ => true
  | .int _ => true
  | .str _ => true
  | .lst ds => noVL ds
  | .vw _ => false
  | .tup ds => noVL ds
  | .obj _ ds => noVL ds
  | .pool => false
  | .cls _ => true
  | .script _ => false
  | .pin _ _ => false
noncomputable def noVL : List D → Bool
  | [] => true
  | d :: ds => noV d && noVL ds
end
noncomputable def viewG (G : Gp) (H : Hp) : Gp := fun a => match G a with
  | some (.fz (.lst xs)) => some (.vw xs)
  | some g => some g
  | none => match H a with
    | some (.lst xs) => some (.vw xs)
    | _ => none
section
variable {C : Ctx} {G G' : Gp} {H H' H0 : Hp} {a : Addr} {g : GO} {xs : List V}
theorem vG_fz (h : G a = some (.fz (.lst xs))) : viewG G H a = some (.vw xs) := by unfold viewG; rw [h]
theorem vG_keep (h : G a = some g) (n : ∀ xs, g ≠ .fz (.lst xs)) : viewG G H a = some g := by
  unfold viewG
  rw [h]
  cases g with
  | fz o =>
    cases o with
    | lst ys => exact absurd rfl (n ys)
    | _ => rfl
  | pool l ns => rfl
  | vw u => rfl
theorem vG_new (h : G a = none) (h2 : H a = some (.lst xs)) : viewG G H a = some (.vw xs) := by unfold viewG; rw [h]; simp only; rw [h2]
theorem vG_none (h : G a = none) (h2 : ∀ xs, H a ≠ some (.lst xs)) : viewG G H a = none := by
  unfold viewG
  rw [h]
  cases e : H a with
  | none => simp only [e]
  | some o =>
    cases o with
    | lst ys => exact absurd e (h2 ys)
    | _ => simp only [e]
theorem vG_lk (h : LkG G a xs) : LkG (viewG G H) a xs := by
  rcases h with h | h
  · exact .inr (vG_fz h)
  · exact .inr (vG_keep h fun _ z => by cases z)
theorem vG_cases (a : Addr) : (∃ ys, viewG G H a = some (.vw ys) ∧ (G a = some (.fz (.lst ys)) ∨ G a = some (.vw ys) ∨ (G a = none ∧ H a = some (.lst ys)))) ∨ (∃ u, G a = some u ∧ viewG G H a = some u ∧ (∀ ys, u ≠ .fz (.lst ys)) ∧ ∀ ys, u ≠ .vw ys) ∨ (G a = none ∧ viewG G H a = none ∧ ∀ ys, H a ≠ some (.lst ys)) := by
  cases e : G a with
  | none =>
    by_cases c : ∃ ys, H a = some (.lst ys)
    · obtain ⟨ys, c⟩ := c
      exact .inl ⟨ys, vG_new e c, .inr (.inr ⟨rfl, c⟩)⟩
    · exact .inr (.inr ⟨rfl, vG_none e fun ys z => c ⟨ys, z⟩, fun ys z => c ⟨ys, z⟩⟩)
  | some u =>
    by_cases c : ∃ ys, u = .fz (.lst ys)
    · obtain ⟨ys, rfl⟩ := c
      exact .inl ⟨ys, vG_fz e, .inl rfl⟩
    · by_cases c2 : ∃ ys, u = .vw ys
      · obtain ⟨ys, rfl⟩ := c2
        exact .inl ⟨ys, vG_keep e (fun _ z => by cases z), .inr (.inl rfl)⟩
      · exact .inr (.inl ⟨u, rfl, vG_keep e fun ys z => c ⟨ys, z⟩, fun ys z => c ⟨ys, z⟩, fun ys z => c2 ⟨ys, z⟩⟩)
theorem Ok.view (k : Ok G H) : Ok (viewG G H) H := ⟨fun a g h => by
  rcases vG_cases (G := G) (H := H) a with ⟨ys, e, c⟩ | ⟨u, e1, e2, n1, n2⟩ | ⟨_, e, _⟩
  · rw [e] at h
    cases h
    rcases c with c | c | c
    · exact k.fz c
    · exact k.vw c
    · exact c.2
  · rw [e2] at h
    cases h
    have z := k.at_ a _ e1
    cases g with
    | fz o => exact z
    | vw u => exact z
    | pool l ns =>
      obtain ⟨z1, z2⟩ : PoolAt H a l ns ∧ LkG G l (ns.map V.int) := z
      exact ⟨z1, vG_lk z2⟩
  · rw [e] at h; cases h⟩
noncomputable def Vws (G1 G2 : Gp) : Prop := ∀ a g, G1 a = some g → (∃ xs, g = .fz (.lst xs) ∧ G2 a = some (.vw xs)) ∨ ((∀ xs, g ≠ .fz (.lst xs)) ∧ G2 a = some g)
theorem Vws.lst {G1 G2 : Gp} (k : Vws G1 G2) (h : G1 a = some (.fz (.lst xs))) : G2 a = some (.vw xs) := by
  rcases k _ _ h with ⟨ys, e, z⟩ | ⟨n, _⟩
  · cases e; exact z
  · exact absurd rfl (n _)
theorem Vws.kp {G1 G2 : Gp} (k : Vws G1 G2) (h : G1 a = some g) (n : ∀ xs, g ≠ .fz (.lst xs)) : G2 a = some g := by
  rcases k _ _ h with ⟨ys, e, z⟩ | ⟨_, z⟩
  · exact absurd e (n _)
  · exact z
theorem Vws.lk {G1 G2 : Gp} (k : Vws G1 G2) (h : LkG G1 a xs) : LkG G2 a xs := by
  rcases h with h | h
  · exact .inr (k.lst h)
  · exact .inr (k.kp h fun _ z => by cases z)
mutual
theorem R.vws {G1 G2 : Gp} (k : Vws G1 G2) : ∀ {v : V} {d : D}, R C G1 v d → R C G2 v (viewD d)
  | _, _, .non => .non
  | _, _, .bl b => .bl b
  | _, _, .int i => .int i
  | _, _, .str x => .str x
  | _, _, .lst h r => by unfold viewD; exact .vw (k.lst h) (RAll.vws k r)
  | _, _, .vw h r => by unfold viewD; exact .vw (k.kp h fun _ z => by cases z) (RAll.vws k r)
  | _, _, .script h => by
    unfold viewD
    refine .script ?_
    rcases h with h | ⟨o, h⟩ | h
    · exact .inl (k.lk h)
    · exact .inr (.inl ⟨o, k.kp h fun _ z => by cases z⟩)
    · exact .inr (.inr h)
  | _, _, .tup h r => by
    unfold viewD
    refine .tup ?_ (RAll.vws k r)
    rcases h with ⟨o, h, hd⟩ | h
    · exact .inl ⟨o, k.kp h (fun _ z => by cases z), hd⟩
    · exact .inr h
  | _, _, .obj m h r l => by unfold viewD; exact .obj m (k.kp h fun _ z => by cases z) (RAll.vws k r) (by rw [viewL_length]; exact l)
  | _, _, .pool h => by unfold viewD; exact .pool (k.kp h fun _ z => by cases z)
  | _, _, .pin h => by unfold viewD; exact .pin (k.lk h)
  | _, _, .cls m => by unfold viewD; exact .cls m
theorem RAll.vws {G1 G2 : Gp} (k : Vws G1 G2) : ∀ {vs : List V} {ds : List D}, RAll C G1 vs ds → RAll C G2 vs (viewL ds)
  | _, _, .nil => by unfold viewL; exact .nil
  | _, _, .cons r t => by unfold viewL; exact .cons (R.vws k r) (RAll.vws k t)
end
theorem vws_view : Vws G (viewG G H) := fun a g h => by
  by_cases c : ∃ ys, g = .fz (.lst ys)
  · obtain ⟨ys, rfl⟩ := c
    exact .inl ⟨ys, rfl, vG_fz h⟩
  · exact .inr ⟨fun ys z => c ⟨ys, z⟩, vG_keep h fun ys z => c ⟨ys, z⟩⟩
structure TreeC (G : Gp) (H0 H : Hp) (P : Addr → Prop) (Gt : Gp) : Prop where
  g : ∀ a g, Gt a = some g → (P a ∧ ∃ xs, g = .fz (.lst xs) ∧ H a = some (.lst xs)) ∨ (G a = some g ∧ ∀ xs, g ≠ .fz (.lst xs))
  p : ∀ a, P a → H0 a = none ∧ G a = none ∧ ∃ xs, H a = some (.lst xs)
theorem TreeC.vws {P : Addr → Prop} {Gt : Gp} (t : TreeC G H0 H P Gt) : Vws Gt (viewG G H) := fun a g h => by
  rcases t.g a g h with ⟨pa, xs, rfl, hx⟩ | ⟨h1, n⟩
  · exact .inl ⟨xs, rfl, vG_new (t.p a pa).2.1 hx⟩
  · exact .inr ⟨n, vG_keep h1 n⟩
noncomputable def viewS : S → S
  | .d d => .d (viewD d)
  | .own _ ds => .d (.vw (viewL ds))
  | .slf a c ds => .slf a c (viewL ds)
  | .exc a cls dx e => .exc a cls dx ⟨e.c, viewL e.ds⟩
  | .tree _ d => .d (viewD d)
noncomputable def vwDl : List Bool → Dl → Dl
  | true :: bs, o :: l => (o.map viewS) :: vwDl bs l
  | false :: bs, _ :: l => none :: vwDl bs l
  | [], _ :: l => none :: vwDl [] l
  | _, [] => []
theorem vwDl_len : ∀ (bs : List Bool) (l : Dl), (vwDl bs l).length = l.length
  | true :: bs, _ :: l => congrArg (· + 1) (vwDl_len bs l)
  | false :: bs, _ :: l => congrArg (· + 1) (vwDl_len bs l)
  | [], _ :: l => congrArg (· + 1) (vwDl_len [] l)
  | [], [] => rfl
  | true :: _, [] => rfl
  | false :: _, [] => rfl
theorem vwDl_at : ∀ (bs : List Bool) (l : Dl) (i : Nat) (s : S), (vwDl bs l)[i]? = some (some s) → ∃ s0, l[i]? = some (some s0) ∧ s = viewS s0
  | true :: bs, o :: l, 0, s, h => by
    have h' : o.map viewS = some s := by simpa [vwDl] using h
    cases o with
    | none => cases h'
    | some s0 => cases h'; exact ⟨s0, rfl, rfl⟩
  | true :: bs, o :: l, i + 1, s, h => by
    have := vwDl_at bs l i s (by simpa [vwDl] using h)
    simpa using this
  | false :: bs, o :: l, 0, s, h => by simp [vwDl] at h
  | false :: bs, o :: l, i + 1, s, h => by
    have := vwDl_at bs l i s (by simpa [vwDl] using h)
    simpa using this
  | [], o :: l, 0, s, h => by simp [vwDl] at h
  | [], o :: l, i + 1, s, h => by
    have := vwDl_at [] l i s (by simpa [vwDl] using h)
    simpa using this
  | [], [], i, s, h => by simp [vwDl] at h
  | true :: _, [], i, s, h => by simp [vwDl] at h
  | false :: _, [], i, s, h => by simp [vwDl] at h
theorem XR.vws {G1 G2 : Gp} (k : Vws G1 G2) {cls : Value} {d : Option Addr} {e : Exn} (r : XR C G1 cls d e) : XR C G2 cls d ⟨e.c, viewL e.ds⟩ := by
  obtain ⟨A, h1, h2, h3, h4⟩ := r
  refine ⟨A, h1, h2, by rw [viewL_length]; exact h3, ?_⟩
  rcases h4 with ⟨h4, h5⟩ | ⟨dd, vs, e1, e2, e3⟩
  · exact .inl ⟨by rw [h4]; rfl, h5⟩
  · exact .inr ⟨dd, vs, e1, k.kp e2 (fun _ z => by cases z), RAll.vws k e3⟩
theorem SRel.view {σ : L2.St} {δ : Dl} (s : SRel C H0 G H σ δ) (bs : List Bool) : SRel C H0 (viewG G H) H σ (vwDl bs δ) := by
  have own : ∀ s : S, (viewS s).isOwn = true → s.isOwn = true := fun s h => by
    cases s <;> first | exact h | cases h
  refine ⟨by rw [vwDl_len]; exact s.len, fun i t h => ?_, fun i j t t' v v' n h1 h2 o1 o2 e1 e2 => ?_, fun i j P d t' v' a n h1 => ?_⟩
  · obtain ⟨s0, h0, rfl⟩ := vwDl_at bs δ i t h
    obtain ⟨v, e, r⟩ := s.at_ i s0 h0
    refine ⟨v, e, ?_⟩
    cases r with
    | d r => exact .d (R.vws vws_view r)
    | own _ hx gx _ rx => exact .d (.vw (vG_new gx hx) (RAll.vws vws_view rx))
    | slf m hx gx nx rx l => exact .slf m hx (vG_none gx fun _ z => by rw [hx] at z; cases z) nx (RAll.vws vws_view rx) (by rw [viewL_length]; exact l)
    | exc r => exact .exc (r.vws vws_view)
    | tree t1 t2 r => exact .d (R.vws (TreeC.vws ⟨t1, t2⟩) r)
  · obtain ⟨s0, h0, rfl⟩ := vwDl_at bs δ i t h1
    obtain ⟨s1, h1', rfl⟩ := vwDl_at bs δ j t' h2
    exact s.apart i j s0 s1 v v' n h0 h1' (own _ o1) (own _ o2) e1 e2
  · obtain ⟨s0, h0, e⟩ := vwDl_at bs δ i _ h1
    cases s0 <;> cases e
noncomputable def bkG (pv : Bool) (G : Gp) (H : Hp) (G' : Gp) : Gp := fun a => match G a with
  | some g => some g
  | none => match H a with
    | some (.lst _) => none
    | _ => match G' a with
      | some (.fz (.lst xs)) => if pv then some (.fz (.lst xs)) else none
      | some (.fz o) => some (.fz o)
      | _ => none
theorem bk_old {pv : Bool} (h : G a = some g) : bkG pv G H G' a = some g := by unfold bkG; rw [h]
theorem bk_none {pv : Bool} (h : G a = none) (h2 : H a = some (.lst xs)) : bkG pv G H G' a = none := by unfold bkG; rw [h]; simp only; rw [h2]
theorem bk_new {pv : Bool} (h : bkG pv G H G' a = some g) (n : G a = none) : (∀ ys, H a ≠ some (.lst ys)) ∧ G' a = some g ∧ (∃ o, g = .fz o) ∧ (pv = false → ∀ ys, g ≠ .fz (.lst ys)) := by
  unfold bkG at h
  rw [n] at h
  simp only at h
  split at h
  · cases h
  · rename_i nh
    refine ⟨fun ys z => nh ys z, ?_⟩
    split at h
    · rename_i ys e
      split at h
      · rename_i hp
        cases h
        exact ⟨e, ⟨_, rfl⟩, fun z => by rw [hp] at z; cases z⟩
      · cases h
    · rename_i o hn e
      cases h
      exact ⟨e, ⟨_, rfl⟩, fun _ ys z => by cases z; exact hn ys rfl⟩
    · cases h
theorem bk_at {pv : Bool} {o : HO} (n : G a = none) (nh : ∀ ys, H a ≠ some (.lst ys)) (h : G' a = some (.fz o)) (hp : pv = true ∨ ∀ ys, o ≠ .lst ys) : bkG pv G H G' a = some (.fz o) := by
  have key : ∀ u : Option HO, (∀ ys, u ≠ some (.lst ys)) → (match u with
    | some (.lst _) => none
    | _ => match G' a with
      | some (.fz (.lst xs)) => if pv then some (GO.fz (.lst xs)) else none
      | some (.fz o) => some (.fz o)
      | _ => none) = some (.fz o) := fun u hu => by
    split
    · exact absurd rfl (hu _)
    · rw [h]
      cases o with
      | lst ys =>
        rcases hp with hp | hp
        · rw [hp]; rfl
        · exact absurd rfl (hp _)
      | _ => rfl
  unfold bkG
  rw [n]
  exact key _ nh
theorem Ext.view {pv : Bool} (k : Ok G H) (y : Ext (viewG G H) H G' H') : Ext G H (bkG pv G H G') H' := by
  have old : ∀ a g, G a = some g → GOk (bkG pv G H G') H' a g := fun a g h => by
    by_cases c : ∃ ys, g = .fz (.lst ys)
    · obtain ⟨ys, rfl⟩ := c
      exact y.ok.vw (y.g _ _ (vG_fz h))
    · have z := y.ok.at_ a g (y.g _ _ (vG_keep h fun ys z => c ⟨ys, z⟩))
      cases g with
      | fz o => exact z
      | vw u => exact z
      | pool l ns =>
        obtain ⟨z1, _⟩ : PoolAt H' a l ns ∧ _ := z
        obtain ⟨_, z2⟩ : PoolAt H a l ns ∧ LkG G l (ns.map V.int) := k.at_ a _ h
        exact ⟨z1, z2.imp (fun z => bk_old z) (fun z => bk_old z)⟩
  refine ⟨fun a o h => bk_old h, ⟨fun a g h => ?_⟩, fun a o h n => ?_⟩
  · cases e : G a with
    | some u =>
      rw [bk_old e] at h
      cases h
      exact old a g e
    | none =>
      obtain ⟨_, h2, ⟨o, rfl⟩, _⟩ := bk_new h e
      exact y.ok.at_ a _ h2
  · by_cases c : ∃ ys, o = .lst ys
    · obtain ⟨ys, rfl⟩ := c
      exact ⟨y.ok.vw (y.g _ _ (vG_new n h)), bk_none n h⟩
    · have nl : ∀ ys, H a ≠ some (.lst ys) := fun ys z => by rw [h] at z; cases z; exact c ⟨ys, rfl⟩
      obtain ⟨h1, h2⟩ := y.h a o h (vG_none n nl)
      refine ⟨h1, ?_⟩
      cases e : bkG pv G H G' a with
      | none => rfl
      | some g =>
        obtain ⟨_, z, _, _⟩ := bk_new e n
        rw [h2] at z; cases z
theorem new_lst (y : Ext (viewG G H) H G' H') (h : G' a = some (.fz (.lst xs))) : G a = none ∧ ∀ ys, H a ≠ some (.lst ys) := by
  rcases vG_cases (G := G) (H := H) a with ⟨ys, e, _⟩ | ⟨u, _, e, n, _⟩ | ⟨n, _, n2⟩
  · have := y.g _ _ e
    rw [h] at this
    cases this
  · have := y.g _ _ e
    rw [h] at this
    cases this
    exact absurd rfl (n _)
  · exact ⟨n, n2⟩
theorem bk_keep {o : HO} (y : Ext (viewG G H) H G' H') (h : G' a = some (.fz o)) : bkG true G H G' a = some (.fz o) := by
  rcases vG_cases (G := G) (H := H) a with ⟨ys, e, _⟩ | ⟨u, e1, e, _, _⟩ | ⟨n, _, n2⟩
  · have := y.g _ _ e
    rw [h] at this
    cases this
  · have := y.g _ _ e
    rw [h] at this
    cases this
    exact bk_old e1
  · exact bk_at n n2 h (.inl rfl)
mutual
theorem R.noV {G3 : Gp} (k : ∀ a o, G' a = some (.fz o) → G3 a = some (.fz o)) : ∀ {v : V} {d : D}, R C G' v d → noV d = true → R C G3 v d
  | _, _, .non, _ => .non
  | _, _, .bl b, _ => .bl b
  | _, _, .int i, _ => .int i
  | _, _, .str x, _ => .str x
  | _, _, .lst h r, e => by unfold Pu.noV at e; exact .lst (k _ _ h) (RAll.noV k r e)
  | _, _, .tup h r, e => by
    unfold Pu.noV at e
    refine .tup ?_ (RAll.noV k r e)
    rcases h with ⟨o, h, hd⟩ | h
    · exact .inl ⟨o, k _ _ h, hd⟩
    · exact .inr h
  | _, _, .obj m h r l, e => by unfold Pu.noV at e; exact .obj m (k _ _ h) (RAll.noV k r e) l
  | _, _, .cls m, _ => .cls m
  | _, _, .vw _ _, e => by unfold Pu.noV at e; cases e
  | _, _, .script _, e => by unfold Pu.noV at e; cases e
  | _, _, .pool _, e => by unfold Pu.noV at e; cases e
  | _, _, .pin _, e => by unfold Pu.noV at e; cases e
theorem RAll.noV {G3 : Gp} (k : ∀ a o, G' a = some (.fz o) → G3 a = some (.fz o)) : ∀ {vs : List V} {ds : List D}, RAll C G' vs ds → noVL ds = true → RAll C G3 vs ds
  | _, _, .nil, _ => .nil
  | _, _, .cons r t, e => by
    unfold noVL at e
    rw [Bool.and_eq_true] at e
    exact .cons (R.noV k r e.1) (RAll.noV k t e.2)
end
mutual
theorem R.noLV {G3 : Gp} (k : ∀ a o, G' a = some (.fz o) → (∀ xs, o ≠ .lst xs) → G3 a = some (.fz o)) : ∀ {v : V} {d : D}, R C G' v d → noL d = true → R C G3 v d
  | _, _, .non, _ => .non
  | _, _, .bl b, _ => .bl b
  | _, _, .int i, _ => .int i
  | _, _, .str x, _ => .str x
  | _, _, .tup h r, e => by
    unfold Pu.noL at e
    refine .tup ?_ (RAll.noLV k r e)
    rcases h with ⟨o, h, hd⟩ | h
    · exact .inl ⟨o, k _ _ h (fun _ z => by cases z), hd⟩
    · exact .inr h
  | _, _, .obj m h r l, e => by unfold Pu.noL at e; exact .obj m (k _ _ h fun _ z => by cases z) (RAll.noLV k r e) l
  | _, _, .cls m, _ => .cls m
  | _, _, .lst _ _, e => by unfold Pu.noL at e; cases e
  | _, _, .vw _ _, e => by unfold Pu.noL at e; cases e
  | _, _, .script _, e => by unfold Pu.noL at e; cases e
  | _, _, .pool _, e => by unfold Pu.noL at e; cases e
  | _, _, .pin _, e => by unfold Pu.noL at e; cases e
theorem RAll.noLV {G3 : Gp} (k : ∀ a o, G' a = some (.fz o) → (∀ xs, o ≠ .lst xs) → G3 a = some (.fz o)) : ∀ {vs : List V} {ds : List D}, RAll C G' vs ds → noLL ds = true → RAll C G3 vs ds
  | _, _, .nil, _ => .nil
  | _, _, .cons r t, e => by
    unfold noLL at e
    rw [Bool.and_eq_true] at e
    exact .cons (R.noLV k r e.1) (RAll.noLV k t e.2)
end
theorem EOk.view {E : XK} {P : Exn → Prop} (k : Ok G H) (x : EOk C G H E P) : EOk C (viewG G H) H E (fun e => noVL e.ds = true ∧ P e) := fun G' H' cls d e y r p => by
  refine x (bkG true G H G') H' cls d e (Ext.view k y) ?_ p.2
  obtain ⟨A, h1, h2, h3, h4⟩ := r
  refine ⟨A, h1, h2, h3, ?_⟩
  rcases h4 with h4 | ⟨dd, vs, e1, e2, e3⟩
  · exact .inl h4
  · exact .inr ⟨dd, vs, e1, bk_keep y e2, RAll.noV (fun a o h => bk_keep y h) e3 p.1⟩
end
noncomputable def pVw (bs : List Bool) (pe : PX) : PX := fun δ P P2 => pe (vwDl bs δ) (fun d => noV d = true ∧ P d) (fun e => noVL e.ds = true ∧ P2 e)
noncomputable def pVwT (bs : List Bool) (pt : PTx) : PTx := fun δ P P2 => pt (vwDl bs δ) P (fun e => noVL e.ds = true ∧ P2 e)
section
variable {X : Cx} {E : L2.St → XK} {e : Expr} {te : TE} {pe : PX}
theorem lt_vw (bs : List Bool) {tt : TT} {pt : PTx} (h : LT X E e tt pt) : LT X E e tt (pVwT bs pt) :=
  ⟨h.py, fun k s x p q => h.le k.view (s.view bs) (EOk.view k x) p fun b G' H' y pd => q b _ H' (Ext.view (pv := true) k y) pd⟩
noncomputable def pAsgT (bs : List Bool) (pe : PX) (i : Nat) : PSx := fun P δ => pe (vwDl bs δ) (fun d => noV d = true ∧ ∀ T, P.nx (δ.set i (some (.tree T d)))) (fun e => noVL e.ds = true ∧ P.ex δ e)
noncomputable def pAsgV (bs : List Bool) (pe : PX) (i : Nat) : PSx := fun P δ => pe (vwDl bs δ) (fun d => match d with | .lst ds => noLL ds = true ∧ P.nx (δ.set i (some (.own none ds))) | _ => False) (fun e => noVL e.ds = true ∧ P.ex δ e)
variable {x : Str} {pos pos' : Pos}
theorem newT {C : Ctx} {G0 G G' : Gp} {H0 H H' : Hp} {v : V} {d : D} (x0 : Ext G0 H0 G H) (y : Ext (viewG G H) H G' H') (r : R C G' v d) (hn : noV d = true) :
    ∃ T Gt, TreeC (bkG false G H G') H0 H' T Gt ∧ R C Gt v d ∧ (∀ a, T a → H a = none) := by
  refine ⟨fun a => ∃ xs, G' a = some (.fz (.lst xs)), fun a => match G' a with
    | some (.fz (.lst xs)) => some (.fz (.lst xs))
    | _ => match bkG false G H G' a with
      | some (.fz (.lst _)) => none
      | x => x, ⟨fun a g h => ?_, fun a ⟨xs, h⟩ => ?_⟩, R.noV (fun a o h => ?_) r hn, fun a ⟨xs, h⟩ => ?_⟩
  · split at h
    · rename_i xs e
      cases h
      exact .inl ⟨⟨xs, e⟩, xs, rfl, y.ok.fz e⟩
    · split at h
      · cases h
      · rename_i n
        exact .inr ⟨h, fun xs z => n xs (by rw [h, z])⟩
  · obtain ⟨n, nl⟩ := new_lst y h
    refine ⟨?_, ?_, xs, y.ok.fz h⟩
    · have hH : H a = none := by
        cases e : H a with
        | none => rfl
        | some o =>
          have := (y.h a o e (vG_none n nl)).2
          rw [h] at this; cases this
      exact x0.back hH
    · cases e : bkG false G H G' a with
      | none => rfl
      | some g =>
        obtain ⟨_, z, _, n2⟩ := bk_new e n
        rw [h] at z
        cases z
        exact absurd rfl (n2 rfl xs)
  · by_cases c : ∃ xs, o = .lst xs
    · obtain ⟨xs, rfl⟩ := c
      rw [h]
    · have e : bkG false G H G' a = some (.fz o) := by
        have e1 := bk_keep y h
        cases e2 : G a with
        | some g => rw [bk_old e2] at e1 ⊢; exact e1
        | none =>
          obtain ⟨n1, _⟩ := bk_new e1 e2
          exact bk_at e2 n1 h (.inr fun ys z => c ⟨ys, z⟩)
      split
      · rename_i xs z
        rw [h] at z
        cases z
        exact absurd ⟨xs, rfl⟩ c
      · rw [e]
        split
        · rename_i xs z
          cases z
          exact absurd ⟨xs, rfl⟩ c
        · rfl
  · obtain ⟨n, nl⟩ := new_lst y h
    cases e : H a with
    | none => rfl
    | some o =>
      have := (y.h a o e (vG_none n nl)).2
      rw [h] at this; cases this
theorem newO {C : Ctx} {G G' : Gp} {H H' : Hp} {v : V} {ds : List D} (y : Ext (viewG G H) H G' H') (r : R C G' v (.lst ds)) (hn : noLL ds = true) :
    ∃ a xs, v = .ref a ∧ H a = none ∧ H' a = some (.lst xs) ∧ bkG false G H G' a = none ∧ RAll C (bkG false G H G') xs ds := by
  cases r with
  | @lst a xs _ hl rl =>
    have h : G' a = some (.fz (.lst xs)) := hl
    obtain ⟨n, nl⟩ := new_lst y h
    refine ⟨a, xs, rfl, ?_, y.ok.fz h, ?_, RAll.noLV (fun b o e n1 => ?_) rl hn⟩
    · cases e : H a with
      | none => rfl
      | some o =>
        have := (y.h a o e (vG_none n nl)).2
        rw [h] at this; cases this
    · cases e : bkG false G H G' a with
      | none => rfl
      | some g =>
        obtain ⟨_, z, _, n2⟩ := bk_new e n
        rw [h] at z
        cases z
        exact absurd rfl (n2 rfl xs)
    · have e1 := bk_keep y e
      cases e2 : G b with
      | some g => rw [bk_old e2] at e1 ⊢; exact e1
      | none =>
        obtain ⟨n3, _⟩ := bk_new e1 e2
        exact bk_at e2 n3 e (.inr n1)
theorem SRel.setT {C : Ctx} {H0 H H' : Hp} {G G' : Gp} {σ : L2.St} {δ : Dl} {i : Nat} {v : V} {d : D} {T : Addr → Prop} {Gt : Gp} (s : SRel C H0 G H σ δ) (y : Ext G H G' H') (t : TreeC G' H0 H' T Gt) (r : R C Gt v d) (hT : ∀ a, T a → H a = none) :
    SRel C H0 G' H' (σ.set i (some v)) (δ.set i (some (.tree T d))) := by
  refine (s.ext y).set (.tree t.g t.p r) (fun z => by cases z) (fun j s' v' a h ev ne f1 f2 => ?_)
  exact s.fp_some h ev f1 (hT a f2)
theorem ls_asgT (i : Nat) (bs : List Bool) (hN : X.N.Nodup) (he : LX X E e te pe) (hi : X.N[i]? = some x := by rfl) (hx : Loc X.env.scope x := by first | exact Or.inl rfl | exact Or.inr rfl)
    (hs : swapsWith e (some (.Name x pos')) pos.line X.env = pure false := by rfl) (hf : X.fn x = true ∨ X.env.scope.names.lookup x = some .local := by first | exact .inl rfl | exact .inr rfl) :
    LS X E (.Assign [.Name x pos'] e pos) (tAsg te (gName i)) (pAsgT bs pe i) :=
  ⟨by first | exact ps_set hN hi hx he.py hs hf | exact ps_set hN hi hx he.py hs, fun en t p => he.le t.ok.view (t.sr.view bs) (EOk.view t.ok (en.ex t)) p fun v d G' H' y r q => by
    obtain ⟨T, Gt, tc, rt, hT⟩ := newT t.ext y r q.1
    have y2 := Ext.view (pv := false) t.ok y
    exact en.nx ⟨t.ext.trans y2, SRel.setT t.sr y2 tc rt hT⟩ (q.2 T)⟩
theorem ls_asgV (i : Nat) (bs : List Bool) (hN : X.N.Nodup) (he : LX X E e te pe) (hi : X.N[i]? = some x := by rfl) (hx : Loc X.env.scope x := by first | exact Or.inl rfl | exact Or.inr rfl)
    (hs : swapsWith e (some (.Name x pos')) pos.line X.env = pure false := by rfl) (hf : X.fn x = true ∨ X.env.scope.names.lookup x = some .local := by first | exact .inl rfl | exact .inr rfl) :
    LS X E (.Assign [.Name x pos'] e pos) (tAsg te (gName i)) (pAsgV bs pe i) :=
  ⟨by first | exact ps_set hN hi hx he.py hs hf | exact ps_set hN hi hx he.py hs, fun en t p => he.le t.ok.view (t.sr.view bs) (EOk.view t.ok (en.ex t)) p fun v d G' H' y r q => by
    split at q
    · rename_i ds
      obtain ⟨a, xs, rfl, hH, hH', hb, rl⟩ := newO y r q.1
      exact en.nx ⟨t.ext.trans (Ext.view (pv := false) t.ok y), SRel.setO t.ext t.sr (Ext.view (pv := false) t.ok y) hH hH' hb rl⟩ q.2
    · exact q.elim⟩
end
end Pu
set_option Elab.async false
set_option linter.all false
set_option maxRecDepth 100000
set_option maxHeartbeats 2000000
set_option autoImplicit false
namespace Pu
open PySem PySem.Spec PyProof.Rows L2
section
variable {C : Ctx} {G G' : Gp} {H H' H0 : Hp}
theorem R.flat_det {G1 G2 : Gp} {v : V} {d e : D} (r : R C G1 v d) (r2 : R C G2 v e) (h : flatD e = true) : d = e := by
  cases r2 <;> first | (cases r <;> rfl) | cases h
theorem RAll.flat_det {G1 G2 : Gp} : ∀ {vs : List V} {ds es : List D}, RAll C G1 vs ds → RAll C G2 vs es → es.all flatD = true → ds = es
  | _, _, _, .nil, .nil, _ => rfl
  | _, _, _, .cons r t, .cons r2 t2, h => by
    simp only [List.all_cons, Bool.and_eq_true] at h
    rw [R.flat_det r r2 h.1, RAll.flat_det t t2 h.2]
mutual
inductive UpdD (es es' : List D) : D → D → Prop
  | same (d) : UpdD es es' d d
  | hit : UpdD es es' (.lst es) (.lst es')
  | lst {ds ds'} : UpdL es es' ds ds' → UpdD es es' (.lst ds) (.lst ds')
  | tup {ds ds'} : UpdL es es' ds ds' → UpdD es es' (.tup ds) (.tup ds')
  | obj {c ds ds'} : UpdL es es' ds ds' → UpdD es es' (.obj c ds) (.obj c ds')
inductive UpdL (es es' : List D) : List D → List D → Prop
  | nil : UpdL es es' [] []
  | cons {d d' ds ds'} : UpdD es es' d d' → UpdL es es' ds ds' → UpdL es es' (d :: ds) (d' :: ds')
end
theorem UpdL.len {es es' : List D} : ∀ {ds ds' : List D}, UpdL es es' ds ds' → ds'.length = ds.length
  | _, _, .nil => rfl
  | _, _, .cons _ t => congrArg (· + 1) (UpdL.len t)
mutual
theorem R.upd {l : Addr} {ys ys' : List V} {es es' : List D} (hl : G l = some (.fz (.lst ys))) (re : RAll C G ys es) (hf : es.all flatD = true) (re' : RAll C (updG G l (.fz (.lst ys'))) ys' es') :
    ∀ {v : V} {d : D}, R C G v d → noV d = true → ∃ d', UpdD es es' d d' ∧ R C (updG G l (.fz (.lst ys'))) v d'
  | _, _, .non, _ => ⟨_, .same _, .non⟩
  | _, _, .bl b, _ => ⟨_, .same _, .bl b⟩
  | _, _, .int i, _ => ⟨_, .same _, .int i⟩
  | _, _, .str x, _ => ⟨_, .same _, .str x⟩
  | _, _, .lst (a := a) (xs := xs) (ds := ds) h r, e => by
    unfold noV at e
    have h' : G a = some (.fz (.lst xs)) := h
    by_cases c : a = l
    · rw [c, hl] at h'
      cases h'
      have := RAll.flat_det r re hf
      rw [this, c]
      exact ⟨_, .hit, .lst updG_same re'⟩
    · obtain ⟨ds', u, r'⟩ := RAll.upd hl re hf re' r e
      exact ⟨_, .lst u, .lst (by show updG G l _ a = _; rw [updG_ne c]; exact h') r'⟩
  | _, _, .tup (a := a) h r, e => by
    unfold noV at e
    obtain ⟨ds', u, r'⟩ := RAll.upd hl re hf re' r e
    refine ⟨_, .tup u, .tup ?_ r'⟩
    rcases h with ⟨o, h, hd⟩ | h
    · exact .inl ⟨o, by rw [updG_ne (fun z => by rw [z, hl] at h; cases h)]; exact h, hd⟩
    · exact .inr h
  | _, _, .obj (a := a) m h r n, e => by
    unfold noV at e
    obtain ⟨ds', u, r'⟩ := RAll.upd hl re hf re' r e
    exact ⟨_, .obj u, .obj m (by rw [updG_ne (fun z => by rw [z, hl] at h; cases h)]; exact h) r' (by rw [u.len]; exact n)⟩
  | _, _, .cls m, _ => ⟨_, .same _, .cls m⟩
  | _, _, .vw _ _, e => by unfold noV at e; cases e
  | _, _, .script _, e => by unfold noV at e; cases e
  | _, _, .pool _, e => by unfold noV at e; cases e
  | _, _, .pin _, e => by unfold noV at e; cases e
theorem RAll.upd {l : Addr} {ys ys' : List V} {es es' : List D} (hl : G l = some (.fz (.lst ys))) (re : RAll C G ys es) (hf : es.all flatD = true) (re' : RAll C (updG G l (.fz (.lst ys'))) ys' es') :
    ∀ {vs : List V} {ds : List D}, RAll C G vs ds → noVL ds = true → ∃ ds', UpdL es es' ds ds' ∧ RAll C (updG G l (.fz (.lst ys'))) vs ds'
  | _, _, .nil, _ => ⟨_, .nil, .nil⟩
  | _, _, .cons r t, e => by
    unfold noVL at e
    rw [Bool.and_eq_true] at e
    obtain ⟨d', u, r'⟩ := R.upd hl re hf re' r e.1
    obtain ⟨ds', us, t'⟩ := RAll.upd hl re hf re' t e.2
    exact ⟨_, .cons u us, .cons r' t'⟩
end
theorem TreeC.ext {P : Addr → Prop} {Gt : Gp} (t : TreeC G H0 H P Gt) (x : Ext G H G' H') : TreeC G' H0 H' P Gt := ⟨fun a g e => by
    rcases t.g a g e with ⟨p, xs, rfl, hx⟩ | ⟨g1, n⟩
    · exact .inl ⟨p, xs, rfl, (x.h _ _ hx (t.p a p).2.1).1⟩
    · exact .inr ⟨x.g _ _ g1, n⟩, fun a p => by
    obtain ⟨n, g, xs, hx⟩ := t.p a p
    obtain ⟨y1, y2⟩ := x.h _ _ hx g
    exact ⟨n, y2, xs, y1⟩⟩
theorem TreeC.lst {P : Addr → Prop} {Gt : Gp} {a : Addr} {xs : List V} (t : TreeC G H0 H P Gt) (h : Gt a = some (.fz (.lst xs))) : P a ∧ H a = some (.lst xs) ∧ G a = none ∧ H0 a = none := by
  rcases t.g a _ h with ⟨p, ys, e, hx⟩ | ⟨_, n⟩
  · cases e
    exact ⟨p, hx, (t.p a p).2.1, (t.p a p).1⟩
  · exact absurd rfl (n xs)
theorem TreeC.tup {P : Addr → Prop} {Gt : Gp} {a : Addr} {xs : List V} (t : TreeC G H0 H P Gt) (h : TpG C Gt a xs) : TpG C G a xs := by
  rcases h with ⟨o, h, hd⟩ | h
  · rcases t.g a _ h with ⟨_, ys, e, _⟩ | ⟨h1, _⟩
    · cases e
    · exact .inl ⟨o, h1, hd⟩
  · exact .inr h
theorem SRel.tree {σ : L2.St} {δ : Dl} {i : Nat} {T : Addr → Prop} {d : D} (s : SRel C H0 G H σ δ) (e : δ[i]? = some (some (.tree T d))) : ∃ v Gt, σ[i]? = some (some v) ∧ TreeC G H0 H T Gt ∧ R C Gt v d := by
  obtain ⟨v, ev, r⟩ := s.at_ i _ e
  cases r with
  | tree t1 t2 r => exact ⟨v, _, ev, ⟨t1, t2⟩, r⟩
theorem SRel.writeT {σ : L2.St} {δ : Dl} {i : Nat} {T : Addr → Prop} {d : D} {l : Addr} {ys' : List V} {o : Option S} (s : SRel C H0 G H σ δ) (e : δ[i]? = some (some (.tree T d))) (hT : T l) (ho : o = none ∨ ∃ d2 v Gt, o = some (.tree T d2) ∧ σ[i]? = some (some v) ∧ TreeC G H0 (upd H l (.lst ys')) T Gt ∧ R C Gt v d2) :
    SRel C H0 G (upd H l (.lst ys')) σ (δ.set i o) := by
  obtain ⟨v0, Gt0, ev, tc, r0⟩ := s.tree e
  have hl : i < δ.length := (List.getElem?_eq_some_iff.mp e).1
  have key : ∀ (j : Nat) (u : S), (δ.set i o)[j]? = some (some u) → (j = i ∧ o = some u) ∨ (j ≠ i ∧ δ[j]? = some (some u)) := fun j u h => by
    by_cases z : i = j
    · subst z
      rw [List.getElem?_set_self hl] at h
      exact .inl ⟨rfl, Option.some.inj h⟩
    · rw [List.getElem?_set_ne z] at h
      exact .inr ⟨fun y => z y.symm, h⟩
  have fpn : ∀ (j : Nat) (u : S) (v : V) (a : Addr), j ≠ i → δ[j]? = some (some u) → σ[j]? = some (some v) → u.fp v a → a ≠ l := fun j u v a n h1 h2 f z => by
    subst z
    exact s.apT i j T d u v _ (Ne.symm n) e h1 h2 hT f
  refine ⟨by rw [List.length_set, s.len], fun j u hu => ?_, fun j k u u' v1 v2 nn h1 h2 o1 o2 e1 e2 => ?_, fun j k P d' u v2 b nn h1 h2 e2 pa f => ?_⟩
  · rcases key j u hu with ⟨rfl, eo⟩ | ⟨z, hu⟩
    · rcases ho with ho | ⟨d2, v, Gt, ho, ev2, t2, r2⟩
      · rw [ho] at eo; cases eo
      · rw [ho] at eo
        cases eo
        exact ⟨v, ev2, .tree t2.g t2.p r2⟩
    · obtain ⟨v, e2, q⟩ := s.at_ j u hu
      refine ⟨v, e2, ?_⟩
      cases q with
      | d q => exact .d q
      | @own b ob ys es hob hb gb nb rb => exact .own hob (by rw [upd_ne (fpn j _ _ b z hu e2 rfl)]; exact hb) gb nb rb
      | @slf b A2 dx2 vs2 c2 es mb hb gb nb rb lb => exact .slf mb (by rw [upd_ne (fpn j _ _ b z hu e2 rfl)]; exact hb) gb nb rb lb
      | exc q => exact .exc q
      | @tree _ _ TP TG t1 t2 q =>
        have np : ∀ b, TP b → b ≠ l := fun b pb => fpn j _ _ b z hu e2 pb
        refine .tree (fun b g eg => ?_) (fun b pb => ?_) q
        · rcases t1 b g eg with ⟨pb, xs2, rfl, hx2⟩ | t3
          · exact .inl ⟨pb, xs2, rfl, by rw [upd_ne (np b pb)]; exact hx2⟩
          · exact .inr t3
        · obtain ⟨n1, n2, xs2, n3⟩ := t2 b pb
          exact ⟨n1, n2, xs2, by rw [upd_ne (np b pb)]; exact n3⟩
  · have back : ∀ (j : Nat) (u : S), (δ.set i o)[j]? = some (some u) → u.isOwn = true → δ[j]? = some (some u) := fun j u h ow => by
      rcases key j u h with ⟨_, eo⟩ | ⟨_, h⟩
      · rcases ho with ho | ⟨d2, v, Gt, ho, _⟩
        · rw [ho] at eo; cases eo
        · rw [ho] at eo; cases eo; cases ow
      · exact h
    exact s.apart j k u u' v1 v2 nn (back j u h1 o1) (back k u' h2 o2) o1 o2 e1 e2
  · have back : ∀ (j : Nat) (u : S) (v : V) (a : Addr), (δ.set i o)[j]? = some (some u) → σ[j]? = some (some v) → u.fp v a → ∃ u0, δ[j]? = some (some u0) ∧ u0.fp v a ∧ (∀ P d', u = .tree P d' → ∃ d0, u0 = .tree P d0) := fun j u v a h ev' fa => by
      rcases key j u h with ⟨rfl, eo⟩ | ⟨_, h⟩
      · rcases ho with ho | ⟨d2, v', Gt, ho, _⟩
        · rw [ho] at eo; cases eo
        · rw [ho] at eo
          cases eo
          exact ⟨_, e, fa, fun P d' z => by cases z; exact ⟨_, rfl⟩⟩
      · exact ⟨u, h, fa, fun P d' z => ⟨_, z⟩⟩
    have hj : ∃ v1, σ[j]? = some (some v1) := by
      rcases key j _ h1 with ⟨rfl, _⟩ | ⟨_, h⟩
      · exact ⟨_, ev⟩
      · obtain ⟨v, ev', _⟩ := s.at_ j _ h
        exact ⟨v, ev'⟩
    obtain ⟨v1, e1⟩ := hj
    obtain ⟨u0, g1, _, g3⟩ := back j _ v1 b h1 e1 pa
    obtain ⟨d0, rfl⟩ := g3 P d' rfl
    obtain ⟨u1, k1, k2, _⟩ := back k u v2 b h2 e2 f
    exact s.apT j k P d0 u1 v2 b nn g1 k1 e2 pa k2
theorem TreeC.write {P : Addr → Prop} {Gt : Gp} {l : Addr} {ys ys' : List V} (t : TreeC G H0 H P Gt) (h : Gt l = some (.fz (.lst ys))) : TreeC G H0 (upd H l (.lst ys')) P (updG Gt l (.fz (.lst ys'))) := by
  obtain ⟨pl, hl, gl, nl⟩ := t.lst h
  refine ⟨fun a g e => ?_, fun a pa => ?_⟩
  · by_cases c : a = l
    · subst c
      rw [updG_same] at e
      cases e
      exact .inl ⟨pl, _, rfl, upd_same⟩
    · rw [updG_ne c] at e
      rcases t.g a g e with ⟨p, xs, rfl, hx⟩ | z
      · exact .inl ⟨p, xs, rfl, by rw [upd_ne c]; exact hx⟩
      · exact .inr z
  · obtain ⟨n1, n2, xs, n3⟩ := t.p a pa
    by_cases c : a = l
    · exact ⟨n1, n2, ys', by rw [c]; exact upd_same⟩
    · exact ⟨n1, n2, xs, by rw [upd_ne c]; exact n3⟩
end
noncomputable abbrev PTr := Dl → D → (D → Prop) → (Exn → Prop) → Prop
structure LTr (X : Cx) (E : L2.St → XK) (e : Expr) (te : TE) (i : Nat) (pp : PTr) : Prop where
  py : PE X e te
  le : ∀ {δ : Dl} {σ : L2.St} {G : Gp} {H H0 : Hp} {T : Addr → Prop} {Gt : Gp} {v : V} {d : D} {Q : VK} {K : D → Prop} {P2 : Exn → Prop}, Ok G H → SRel (cx X) H0 G H σ δ → EOk (cx X) G H (E σ) P2 → σ[i]? = some (some v) → TreeC G H0 H T Gt → R (cx X) Gt v d → pp δ d K P2 →
    (∀ v' d' G' H', Ext G H G' H' → R (cx X) Gt v' d' → K d' → Q v' H') → te σ H Q
noncomputable def pTrV : PTr := fun _ d K _ => K d
noncomputable def pTrI (pp : PTr) (pj : PX) : PTr := fun δ d K P2 => pp δ d (fun d1 => pj δ (fun x => match x with
  | .int n => (match d1 with
    | .lst ds => (match atI ds n with | some y => K y | none => False)
    | .tup ds => (match atI ds n with | some y => K y | none => False)
    | _ => False)
  | _ => False) P2) P2
section
variable {X : Cx} {E : L2.St → XK} {e o j : Expr} {te to tj : TE} {pe pj : PX} {pp : PTr} {i : Nat}
theorem ltr_var (i : Nat) {x : Str} {pos : Pos} (hN : X.N[i]? = some x := by rfl) (hv : Vis X.env.scope x := by first | exact Or.inl rfl | exact Or.inr (Or.inl rfl) | exact Or.inr (Or.inr rfl))
    (hd : (x == ("__debug__" : Str)) = false := by decide) (hcd : (x == ("__classdict__" : Str)) = false := by decide) : LTr X E (.Name x pos) (tVar i) i pTrV :=
  ⟨pe_var hN hv hd hcd, fun k s x ev t r p q => ⟨_, ev, q _ _ _ _ (.refl k) r p⟩⟩
theorem ltr_ix {pos : Pos} (ho : LTr X E o to i pp) (hj : LX X E j tj pj) (hs : PlainIx j) : LTr X E (.Subscript o j pos) (tOp (rIx X.K) to tj) i (pTrI pp pj) :=
  ⟨pe_ix ix_seq ho.py hj.py hs, fun {δ σ G H H0 T Gt v d Q K P2} k s x ev t r p q => ho.le k s x ev t r p fun v1 d1 G1 H1 y1 r1 p1 => by
    refine hj.le y1.ok (s.ext y1) (x.ext y1) p1 fun u d2 G2 H2 y2 r2 p2 => ?_
    have y := y1.trans y2
    have t2 := t.ext y
    split at p2
    · obtain rfl := r2.intR
      split at p2
      · split at p2
        · rename_i dd ed
          cases r1 with
          | lst h1 rr =>
            obtain ⟨w, h2, rw⟩ := rr.atI ed
            exact .inl ⟨_, _, _, w, rfl, rfl, SqL.of (t2.lst h1).2.1, h2, q _ _ _ _ y rw p2⟩
        · exact p2.elim
      · split at p2
        · rename_i dd ed
          cases r1 with
          | tup h1 rr =>
            obtain ⟨w, h2, rw⟩ := rr.atI ed
            exact .inr (.inl ⟨_, _, _, w, rfl, rfl, TpG.seq y2.ok (t2.tup h1), h2, q _ _ _ _ y rw p2⟩)
        · exact p2.elim
      · exact p2.elim
    · exact p2.elim⟩
noncomputable def trEnd (up : Bool) (i : Nat) (T : Addr → Prop) (d : D) (es es' : List D) (nx : Dl → Prop) (δ : Dl) : Prop :=
  if up = true then es.all flatD = true ∧ es'.all flatD = true ∧ noV d = true ∧ ∀ d2, UpdD es es' d d2 → nx (δ.set i (some (.tree T d2))) else nx (δ.set i none)
theorem trEnd_ok {C : Ctx} {G0 G G' : Gp} {H0 H H' : Hp} {σ : L2.St} {δ : Dl} {up : Bool} {T : Addr → Prop} {Gt : Gp} {v : V} {d : D} {l : Addr} {ys ys' : List V} {es es' : List D} {nx : Dl → Prop} {Dx : L2.St → Hp → Prop}
    (t : Stt C G0 H0 σ δ G H) (ed : δ[i]? = some (some (.tree T d))) (ev : σ[i]? = some (some v)) (tc : TreeC G H0 H T Gt) (rd : R C Gt v d) (hl : Gt l = some (.fz (.lst ys))) (re : RAll C Gt ys es) (re' : es.all flatD = true → RAll C G' ys' es') (y : Ext G H G' H')
    (q : trEnd up i T d es es' nx δ) (hnx : ∀ {σ : L2.St} {δ : Dl} {G : Gp} {H : Hp}, Stt C G0 H0 σ δ G H → nx δ → Dx σ H) : H' l = some (.lst ys) ∧ Dx σ (upd H' l (.lst ys')) := by
  have t1 := t.step y
  have tc1 := tc.ext y
  obtain ⟨pl, h1, g1, n1⟩ := tc1.lst hl
  refine ⟨h1, ?_⟩
  have x1 : Ext G0 H0 G' (upd H' l (.lst ys')) := t1.ext.write n1 g1
  unfold trEnd at q
  split at q
  · obtain ⟨f1, f2, nv, q⟩ := q
    obtain ⟨d2, u, r2⟩ := R.upd hl re f1 (RAll.flatG (re' f1) f2) rd nv
    exact hnx ⟨x1, t1.sr.writeT ed pl (.inr ⟨d2, v, _, rfl, ev, tc1.write hl, r2⟩)⟩ (q d2 u)
  · exact hnx ⟨x1, t1.sr.writeT ed pl (.inl rfl)⟩ q
noncomputable def pTrApp (i : Nat) (up : Bool) (pp : PTr) (pe : PX) : PSx := fun P δ => match δ[i]? with
  | some (some (.tree T d)) => pp δ d (fun d1 => match d1 with
    | .lst es => pe δ (fun x => es.length < szl ∧ trEnd up i T d es (es ++ [x]) P.nx δ) (P.ex δ)
    | _ => False) (P.ex δ)
  | _ => False
variable {p pos apos : Pos}
theorem ls_trApp (up : Bool) (ho : LTr X E o to i pp) (he : LX X E e te pe)
    (hbase : attributeBase o "append" X.env (eval o X.env) = eval o X.env := by rfl)
    (hfew : ((backTo p (starEach [e] X.env)).all (fun x => !x.1) && (backToKw p (keywordEach [] X.env)).all (fun x => x.1.isSome)
      && decide ([e].length + ([] : List Keyword).length + (if ([] : List Keyword).isEmpty then 0 else 1) < 30)) = true := by rfl)
    (hline : (apos.endLine == p.line) = true := by rfl) (hs : starEach [e] X.env = (false, eval e X.env) :: starEach [] X.env := by rfl) (hplain : (backTo p (starEach [] X.env)).any (·.1) = false := by rfl)
    (hsw : swapsWith (.Call (.Attribute o "append" apos) [e] [] p) none pos.line X.env = pure false := by rfl) :
    LS X E (.Expr (.Call (.Attribute o "append" apos) [e] [] p) pos) (tDrop (tBM X.K "list" rAppend to (tCons te tNil))) (pTrApp i up pp pe) := by
  refine ⟨ps_expr (pe_bm PySem.F.plainAttrs_list PySem.F.slot_list_append PySem.F.type_list_append mt_append ho.py (pa_cons he.py pa_nil hs) hbase hfew hline hs hplain) hsw, fun {G0 H0 Dn P δ σ G H} en t p => ?_⟩
  unfold pTrApp at p
  split at p
  · rename_i T d ed
    obtain ⟨v, Gt, ev, tc, rd⟩ := t.sr.tree ed
    refine ho.le t.ok t.sr (en.ex t) ev tc rd p fun v1 d1 G1 H1 y1 r1 p1 => ?_
    split at p1
    · rename_i es
      cases r1 with
      | @lst l ys _ hl re =>
        have h1 := ((tc.ext y1).lst hl).2.1
        refine ⟨tyV_lst h1, he.le y1.ok (t.sr.ext y1) ((en.ex t).ext y1) p1 fun w x G2 H2 y2 rx q => ?_⟩
        obtain ⟨k1, k2⟩ := trEnd_ok (ys' := ys ++ [w]) t ed ev tc rd hl re (fun f => RAll.append (RAll.flatG re f) (.one rx)) (y1.trans y2) q.2 en.nx
        exact ⟨l, ys, w, rfl, rfl, k1, by rw [re.length, sizeLine_eq]; exact q.1, k2⟩
    · exact p1.elim
  · exact p.elim
noncomputable def pTrSet (i : Nat) (up : Bool) (pp : PTr) (pk pe : PX) : PSx := fun P δ => pe δ (fun x => match δ[i]? with
  | some (some (.tree T d)) => pp δ d (fun d1 => match d1 with
    | .lst es => pk δ (fun k => match k with
      | .int j => (match ixN es.length j with | some n => trEnd up i T d es (es.set n x) P.nx δ | none => False)
      | _ => False) (P.ex δ)
    | _ => False) (P.ex δ)
  | _ => False) (P.ex δ)
theorem ls_trSet (up : Bool) {e2 : Expr} {te2 : TE} {pe2 : PX} {sp : Pos} (he : LX X E e te pe) (ho : LTr X E o to i pp) (he2 : LX X E e2 te2 pe2)
    (ha : ∀ v, assign (.Subscript o e2 sp) X.env v = (do
      let ov ← holding [v] (eval o X.env)
      let iv ← holding [v, ov] (eval e2 X.env)
      standAt sp
      holding [v, ov, iv] (setItem ov iv v)
      release [v, ov, iv] []) := by intro _; rfl)
    (hs : swapsWithSole [.Subscript o e2 sp] e pos.line X.env = pure false := by rfl) (hw : swappedStores [.Subscript o e2 sp] e X.env = pure none := by rfl)
    (h1 : (assignEach [.Subscript o e2 sp] X.env).map (·.2) = [assign (.Subscript o e2 sp) X.env] := by rfl) :
    LS X E (.Assign [.Subscript o e2 sp] e pos) (tAsg te (gSub to te2 rSetL)) (pTrSet i up pp pe2 pe) := by
  refine ⟨ps_asg he.py (pg_sub ho.py he2.py set_list ha) hs hw h1, fun {G0 H0 Dn P δ σ G H} en t p => ?_⟩
  refine he.le t.ok t.sr (en.ex t) p fun w x G' H' y rx q => ?_
  split at q
  · rename_i T d ed
    obtain ⟨v, Gt, ev, tc, rd⟩ := t.sr.tree ed
    refine ho.le y.ok (t.sr.ext y) ((en.ex t).ext y) ev (tc.ext y) rd q fun v1 d1 G1 H1 y1 r1 p1 => ?_
    have y01 := y.trans y1
    split at p1
    · rename_i es
      cases r1 with
      | @lst l ys _ hl re =>
        refine he2.le y01.ok (t.sr.ext y01) ((en.ex t).ext y01) p1 fun u k G2 H2 y2 rk q2 => ?_
        have y02 := y01.trans y2
        split at q2
        · obtain rfl := rk.intR
          split at q2
          · rename_i n en2
            obtain ⟨k1, k2⟩ := trEnd_ok (ys' := ys.set n w) t ed ev tc rd hl re (fun f => RAll.set (rx.mono (y1.trans y2).g) n (RAll.flatG re f)) y02 q2 en.nx
            refine ⟨l, ys, _, n, rfl, rfl, k1, by rw [re.length]; exact en2, k2⟩
          · exact q2.elim
        · exact q2.elim
    · exact p1.elim
  · exact q.elim
noncomputable def pTrMut (i : Nat) (up : Bool) (pp : PTr) (f : List D → List D) : PSx := fun P δ => match δ[i]? with
  | some (some (.tree T d)) => pp δ d (fun d1 => match d1 with
    | .lst es => trEnd up i T d es (f es) P.nx δ
    | _ => False) (P.ex δ)
  | _ => False
end
end Pu
set_option Elab.async false
set_option linter.all false
set_option maxRecDepth 100000
set_option maxHeartbeats 2000000
set_option autoImplicit false
namespace Pu
open PySem PySem.Spec PyProof.Rows L2
section
noncomputable def pMvT (i : Nat) (pp : PTr) (k : Nat) : PSx := fun P δ => match δ[i]? with
  | some (some (.tree T d)) => pp δ d (fun d1 => match d1 with
    | .lst es => noLL es = true ∧ P.nx ((δ.set i none).set k (some (.own none es)))
    | _ => False) (P.ex δ)
  | _ => False
variable {X : Cx} {E : L2.St → XK} {e : Expr} {te : TE} {pp : PTr} {x : Str} {pos pos' : Pos} {i : Nat}
end
end Pu
set_option Elab.async false
set_option linter.all false
set_option maxRecDepth 100000
set_option maxHeartbeats 2000000
set_option autoImplicit false
namespace HT
open PySem PySem.Spec PyProof.Rows
section
variable {prog : Program} {w : World} {A : Around} {E : Value → Shared → Prop} {s : Shared}
end
end HT
namespace Pu
open PySem PySem.Spec PyProof.Rows L2
section
variable {X : Cx} {E : L2.St → XK}
noncomputable def tRevT (K : PySem.W.Frag) (te : TE) : TE := fun σ H Q => te σ H fun x H1 => ∃ a xs, x = .ref a ∧ SqT K H1 a xs ∧ ∀ p o, H1 p = none → o.dict = none → Q (.ref p) (upd H1 p (.frz o (.tup xs.reverse)))
noncomputable def pRevT (pe : PX) : PX := fun δ P P2 => pe δ (fun d => match d with | .tup ds => P (.tup ds.reverse) | _ => False) P2
end
end Pu
set_option Elab.async false
set_option linter.all false
set_option maxRecDepth 100000
set_option maxHeartbeats 2000000
set_option autoImplicit false
namespace Pu
open PySem PySem.Spec PyProof.Rows L2
noncomputable def rIsXt (K : PySem.W.Frag) (a : Addr) (cls : Value) (d : Option Addr) : List V → Hp → VK → Prop := fun xs H Q => ∃ (tp : Addr) (cs : List V) (us : List Value) (b : Bool) (C : Addr), cls = .ref C ∧ ExcC K C ∧ (d = none ∨ ∃ dd fs, d = some dd ∧ H dd = some (.xd fs)) ∧ xs = [.ref a, .ref tp] ∧ H tp = some (.tup cs) ∧ Paired ClsV cs us ∧ PySem.W.kitAny K (.ref C) us = some b ∧ Q (.bl b) H
section
variable {X : Cx} {E : L2.St → XK} {a : Addr} {oe : Obj} {cls : Value} {d : Option Addr} {pn : List (Addr × Obj)}
noncomputable def anyF (f g : Nat → Option Bool) (c : Nat) : Option Bool := match f c with | some true => some true | some false => g c | none => none
noncomputable def IsXTs (K : PySem.W.Frag) (mg : Str → Option Value) (cvs : List Value) (f : Nat → Option Bool) : Prop := ∀ c b, f c = some b → ∀ A, mg (cname c) = some (.ref A) → ExcC K A ∧ PySem.W.kitAny K (.ref A) cvs = some b
end
end Pu
set_option Elab.async false
set_option linter.all false
set_option maxRecDepth 100000
set_option maxHeartbeats 3200000
set_option autoImplicit false
namespace Pu
open PySem PySem.Spec PyProof.Rows L2
section
variable {P : Program} {w : World} {A : Around} {E : Value → Shared → Prop} {s : Shared}
noncomputable def filled (w : World) (s : Shared) (ns : List Int) (s2 : Shared) : Prop := ∃ (h' : Heap) (tk c : Nat), s2 = { s with heap := h', toks := tk } ∧
  SetR w h' s.heap.objs.size (fun j => decide (j ∈ ns)) c ∧ c ≤ ns.length ∧ ∀ b o, s.heap.get? b = some o → h'.get? b = some o
theorem set_list {l : Addr} {its : Array Value} {ns : List Int} {Q : Value → Shared → Prop} (hh : A.handled = none) (hl : s.heap.IsList l its) (hi : IntsAre its.toList ns) (hb : ns.length + 1 < scanBound)
    (q : ∀ s2, filled w s ns s2 → Q (.ref (Array.size (Heap.objs s.heap))) s2) : wpAny (model P w) A (call (.type "set") [.ref l]) Q E s := by
  have sz : its.size = ns.length := by rw [← Array.length_toList]; exact hi.length
  have m1 := F.called_set.mro
  have m2 := F.called_set.made
  have m3 := F.called_set.sub
  have m4 := F.called_set.notType
  have m5 := F.called_set.canCreate
  have m6 := F.typeCall_set_1 (.ref l)
  obtain ⟨c0, tl0, m1⟩ := m1
  refine wpAny_call (codeAny_of_tree ?_)
  show wpAny _ _ (callAny (.type "set") _) _ _ _
  refine wpAny_pure ⟨Code.quiet_builtin _ (by decide +kernel), codeAny_builtin F.entry_type_call ?_⟩
  rw [Around.under_plain (weight_type_call_type "set" [.ref l] []) rfl]
  repeat any_goals first | assumption | wp_step
  refine codeAny_mono (code_set_led1 (.ref l) (E := E) (Q₁ := fun o s1 => o = .ref (Array.size (Heap.objs s.heap)) ∧ s1 = { s with heap := (Heap.push s.heap (Obj.mk (Value.type "set") none (Data.set #[] 0 (SetTable.fresh 0 0 (!w.params.followText "set-order"))) #[])) }) ⟨rfl, rfl⟩) fun r s1 hr => ?_
  cases r with
  | error e => exact hr
  | ok fl =>
    cases fl with
    | ret o1 =>
      obtain ⟨rfl, rfl⟩ := hr
      have hS : ((Heap.push s.heap (Obj.mk (Value.type "set") none (Data.set #[] 0 (SetTable.fresh 0 0 (!w.params.followText "set-order"))) #[]))).get? (Array.size (Heap.objs s.heap)) = some (Obj.mk (Value.type "set") none (Data.set #[] 0 (SetTable.fresh 0 0 (!w.params.followText "set-order"))) #[]) := Heap.get?_push_size _ rfl
      have hT : Shared.TypeIs { s with heap := (Heap.push s.heap (Obj.mk (Value.type "set") none (Data.set #[] 0 (SetTable.fresh 0 0 (!w.params.followText "set-order"))) #[])) } (.ref (Array.size (Heap.objs s.heap))) "set" := ⟨_, hS, rfl⟩
      have i1 := F.called_set.init.lookup
      have i2 := F.called_set.init.bind (.ref (Array.size (Heap.objs s.heap)))
      repeat any_goals first | assumption | wp_step
      refine codeAny_mono (codeAny_call_builtin (R := wants (fun r s2 => r = .none ∧ filled w s ns s2) E) F.called_set.init.plain F.entry_set_init (check_set_init_1 hT ?_)) fun r2 s2 hr2 => ?_
      · obtain ⟨⟨kc, kd, kx, ks⟩, h0, e1, nl, e2⟩ := hl
        simp only at e1 e2
        subst e1 e2
        have hol := Heap.get?_push_of_some (Obj.mk (Value.type "set") none (Data.set #[] 0 (SetTable.fresh 0 0 (!w.params.followText "set-order"))) #[]) h0
        have x1 := F.sub_list_set
        have x2 := F.sub_list_frozenset
        have x3 : (Value.type "list" == Value.type "dict") = false := by decide
        have hl1 : ((Heap.push s.heap (Obj.mk (Value.type "set") none (Data.set #[] 0 (SetTable.fresh 0 0 (!w.params.followText "set-order"))) #[]))).IsList l its := ⟨_, hol, rfl, nl, rfl⟩
        have below : l < (Array.size (Heap.objs s.heap)) := Heap.lt_size h0
        have ez : ((Heap.push s.heap (Obj.mk (Value.type "set") none (Data.set #[] 0 (SetTable.fresh 0 0 (!w.params.followText "set-order"))) #[]))).objs.size = (Array.size (Heap.objs s.heap)) + 1 := Heap.size_push ..
        unfold Builtin.«set.__init__» noKeywords Builtin.Frozenset.updateFrom
        generalize hPI : pyIter = PI
        wp_walk
        subst hPI
        refine wpAny_pyIter_list hl1 (wpAny_bind (wpAny_runValue ?_))
        refine set_update_ints (Walks.list (A := A.in1.in1.in1) (by simp [hh]) _ l (by rw [ez]; exact Nat.ne_of_lt (Nat.lt_succ_of_lt below)) its).toS (Array.size (Heap.objs s.heap)) (by rw [ez]; simp only [List.mem_cons, List.not_mem_nil, or_false, not_or]; exact ⟨Nat.ne_of_lt (Nat.lt_succ_self _), Nat.ne_of_gt below⟩) ns sz hb (fun i v hv => ?_) its.size 0 _ rfl (Nat.zero_le _)
          ⟨⟨_, Heap.get?_push_size _ rfl, rfl, rfl⟩, hl1.push _⟩ ⟨0, Nat.le_refl 0, setR_new_at (Heap.get?_push_of_some _ hS)⟩ fun s3 c3 hm hc hR => ?_
        · have hlt : i < ns.length := by rw [← sz]; exact (Array.getElem?_eq_some_iff.mp hv).1
          obtain ⟨t, e⟩ := hi.int_at i v (by rw [Array.getElem?_toList]; exact hv)
          rw [List.getD_eq_getElem?_getD, List.getElem?_eq_getElem hlt] at e
          exact ⟨_, t, List.getElem?_eq_getElem hlt, e⟩
        · have g1 := hm.gens
          have g2 := hm.drawn
          have g3 := hm.os
          obtain ⟨h3, g', d', t3, o'⟩ := s3
          simp only at g1 g2 g3
          subst g1 g2 g3
          show wpAny _ _ _ _ _ _
          refine wpAny_pure ?_
          show wpAny _ _ (ret Value.none) _ _ _
          rw [sz] at hc
          refine wpAny_pure ⟨rfl, h3, t3, c3, rfl, hR, hc, fun b o e => ?_⟩
          have lt := Heap.lt_size e
          refine hm.heap b o ?_ (Heap.get?_push_of_some _ (Heap.get?_push_of_some _ e))
          rw [ez]
          simp only [List.mem_cons, List.not_mem_nil, or_false, not_or]
          exact ⟨Nat.ne_of_lt lt, Nat.ne_of_lt (Nat.lt_succ_of_lt lt)⟩
      · cases r2 with
        | error e => exact hr2
        | ok f2 =>
          cases f2 with
          | ret v2 =>
            obtain ⟨rfl, hf⟩ := hr2
            repeat any_goals first | assumption | wp_step
            exact q _ hf
          | _ => exact hr2.elim
    | _ => exact hr.elim
variable {X : Cx}
noncomputable def rSetOf (w : World) (K : PySem.W.Frag) : List V → Hp → VK → Prop := fun vs H Q => ∃ (a : Addr) (ns : List Int), vs = [V.ref a] ∧ (SqL K H a (ns.map V.int) ∨ SqT K H a (ns.map V.int)) ∧ ns.length < 64 ∧
  ∀ (p : Addr) (c : Nat), H p = none → c ≤ ns.length → Q (.ref p) (upd H p (SetO w p (fun j => decide (j ∈ ns)) c))
noncomputable def fSrtSet : PFn := fun ds P => match ds with | [d] => (match itemsD d with | some es => (match intsD es with | some ns => ns.length < 64 ∧ ∀ ns' : List Int, ns'.Pairwise (· < ·) → (∀ k, k ∈ ns' ↔ k ∈ ns) → P (.lst (ns'.map .int)) | none => False) | none => False) | _ => False
end
end Pu
set_option Elab.async false
set_option linter.all false
set_option maxRecDepth 100000
set_option maxHeartbeats 2000000
set_option autoImplicit false
namespace Pu
open PySem PySem.Spec PyProof.Rows L2 PpSet
section
variable {X : Cx}
noncomputable def tSci (w : World) (wi : TI) (g : TG) (tt : TT) (te : TE) (vs : List Nat) : TE := fun σ H Q => wi σ H fun J H1 => ∀ At, H1 At = none → ∃ Wn : Nat → Nat → Hp → Prop, (∃ m, Wn 0 m (upd H1 At (SetO w At (fun _ => false) 0))) ∧ ∀ i m Hx, Wn i m Hx →
  (J.stop i Hx ∧ Q (.ref At) Hx) ∨ (J.go i Hx ∧ ∃ On : Hp → Prop, (∀ Hy, On Hy → ∃ m2, m2 < m ∧ Wn (i + 1) m2 Hy) ∧ ∀ x Hy, J.yld i Hx x Hy → g x (wipe σ vs) Hy fun τ Ha => wipe τ vs = wipe σ vs ∧ tt τ Ha fun b Hb =>
    if b = true then te τ Hb fun y Hc => ∃ (key : Int) (Sx : Int → Bool) (cnt : Nat), y = .int key ∧ Hc At = some (SetO w At Sx cnt) ∧ cnt + 1 < scanBound ∧ On (upd Hc At (SetO w At (fun j => Sx j || decide (j = key)) (if Sx key = true then cnt else cnt + 1))) else On Hb)
end
noncomputable def pScL (pg : PG') (pt : PTx) (pe : PX) (δw : Dl) (K : List Int → Prop) : List D → List Int → Prop
  | [], ns => K ns
  | d :: ds, ns => pg d δw fun δ' => pt δ' (fun b => if b = true then pe δ' (fun y => match y with | .int k => ns.length < 64 ∧ pScL pg pt pe δw K ds (ns ++ [k]) | _ => False) (fun _ => False) else pScL pg pt pe δw K ds ns) fun _ => False
noncomputable def pSrtSc (pi : PLx) (pg : PG') (pt : PTx) (pe : PX) (vs : List Nat) : PX := fun δ P P2 => pi δ (fun ds => pScL pg pt pe (wipeD δ vs) (fun ns => ns.length < 64 ∧ ∀ ns' : List Int, ns'.Pairwise (· < ·) → (∀ k, k ∈ ns' ↔ k ∈ ns) → P (.lst (ns'.map .int))) ds []) P2
section
variable {X : Cx} {E : L2.St → XK}
variable {elt tg iter : Expr} {ifs : List Expr} {scope : Scope} {own : List (Str × Nat)} {pos cpos p : Pos} {nm : Str} {wi : TI} {g : TG} {tt : TT} {te : TE} {pi : PLx} {pg : PG'} {pt : PTx} {pe : PX} {js : List Nat}
end
end Pu
set_option Elab.async false
set_option linter.all false
set_option maxRecDepth 100000
set_option maxHeartbeats 2000000
set_option autoImplicit false
namespace Pu
open PySem PySem.Spec PyProof.Rows L2
theorem pair_lt {B p q i j : Int} (hi : 0 ≤ i ∧ i < B) (hj : 0 ≤ j ∧ j < B) (h : p < q) : p * B + i < q * B + j := by
  have h1 : (p + 1) * B ≤ q * B := Int.mul_le_mul_of_nonneg_right (by omega) (by omega)
  rw [Int.add_mul, Int.one_mul] at h1
  omega
theorem pair_iff {B p q i j : Int} (hi : 0 ≤ i ∧ i < B) (hj : 0 ≤ j ∧ j < B) (hn : p ≠ q) : (p * B + i < q * B + j) ↔ p < q := by
  constructor
  · intro h
    rcases Int.lt_trichotomy p q with z | z | z
    · exact z
    · exact absurd z hn
    · have := pair_lt hj hi z
      omega
  · exact pair_lt hi hj
section
variable {pr : Program} {w : World} {A : Around} {E : Value → Shared → Prop} {s : Shared}
theorem pair_lex {B p q i j : Int} {t1 t2 t3 t4 : Tok} {b : Bool} {Qb : Bool → Shared → Prop} (hi : 0 ≤ i ∧ i < B) (hj : 0 ≤ j ∧ j < B) (fin : Qb (decide (p * B + i < q * B + j)) s) :
    PySem.W.KatLex pr w A b false Qb [(Value.int p t1, Value.int q t2), (Value.int i t3, Value.int j t4)] 0 s := by
  refine PySem.W.kat_cons (wpAny_eqBool_int ?_)
  by_cases c : p = q
  · subst c
    rw [beq_self_eq_true]
    refine PySem.W.kat_yes (PySem.W.kat_cons (wpAny_eqBool_int ?_))
    by_cases d : i = j
    · subst d
      rw [beq_self_eq_true]
      refine PySem.W.kat_yes (PySem.W.kat_nil ?_)
      rwa [decide_eq_false (Int.lt_irrefl _)] at fin
    · rw [beq_eq_false_iff_ne.mpr d]
      refine PySem.W.kat_no (TS.oneLt_ints _ ?_)
      rwa [decide_eq_decide.mpr (show p * B + i < p * B + j ↔ i < j by omega)] at fin
  · rw [beq_eq_false_iff_ne.mpr c]
    refine PySem.W.kat_no (TS.oneLt_ints _ ?_)
    rwa [decide_eq_decide.mpr (pair_iff hi hj c)] at fin
noncomputable def PrsOk (h : Heap) (B : Int) (us : List Value) : Prop := ∀ u ∈ us, ∃ p i, TS.TupInts h u [p, i] ∧ 0 ≤ i ∧ i < B
theorem PrsOk.kept {h h' : Heap} {B : Int} {us : List Value} (x : PrsOk h B us) (k : ∀ b o, h.get? b = some o → o.cls = .type "tuple" → h'.get? b = some o) : PrsOk h' B us := fun u hu =>
  let ⟨p, i, t, z⟩ := x u hu; ⟨p, i, t.keeps k, z⟩
noncomputable def prNum (h : Heap) (B : Int) (u : Value) : Int := match TS.intsOf h u with
  | [p, i] => p * B + i
  | _ => 0
theorem prNum_at {h : Heap} {B p i : Int} {u : Value} (t : TS.TupInts h u [p, i]) : prNum h B u = p * B + i := by unfold prNum; rw [t.ints]
theorem raw_pair {h : Heap} {u : Value} {p i : Int} (t : TS.TupInts h u [p, i]) : ∃ (a : Addr) (xs : Array Value) (o : Obj) (n : Nat) (t1 t2 : Tok), u = .ref a ∧ h.get? a = some o ∧ o.cls = .type "tuple" ∧ o.data = .seq xs n ∧ xs.toList = [.int p t1, .int i t2] := by
  obtain ⟨a, xs, e, ⟨o, ho, hc, n, hd⟩, is⟩ := t
  generalize hl : xs.toList = l at is
  cases is with
  | cons p t1 r =>
    cases r with
    | cons i t2 r2 =>
      cases r2
      exact ⟨a, xs, o, n, t1, t2, e, ho, hc, hd, hl⟩
theorem fst_prs {h : Heap} {B : Int} : ∀ us : List Value, PrsOk h B us → ∃ fs, PySem.W.KatTups h us fs ∧ fs.length = us.length ∧ ∀ f ∈ fs, ∃ n t, f = Value.int n t
  | [], _ => ⟨[], PySem.W.KatTups.nil, rfl, fun f hf => by cases hf⟩
  | u :: us, x => by
    obtain ⟨fs, k, hl, hf⟩ := fst_prs us fun v hv => x v (List.mem_cons_of_mem _ hv)
    obtain ⟨p, i, t, _⟩ := x u List.mem_cons_self
    obtain ⟨a, xs, o, n, t1, t2, rfl, ho, hc, hd, el⟩ := raw_pair t
    refine ⟨.int p t1 :: fs, PySem.W.KatTups.cons ho hc hd ?_ k, by simp [hl], fun f hfm => ?_⟩
    · rw [← Array.getElem?_toList, el]; rfl
    · rcases List.mem_cons.mp hfm with rfl | hfm
      · exact ⟨p, t1, rfl⟩
      · exact hf f hfm
theorem kind_prs {B : Int} {us : List Value} (two : 2 ≤ us.length) (x : PrsOk s.heap B us) (rk : Value → Int) (hrk : ∀ u ∈ us, ∀ p i, TS.TupInts s.heap u [p, i] → rk u = p * B + i) (Qk : SortKind → Shared → Prop)
    (fin : ∀ κ, TS.Cmp pr w A s κ (pairsOf us) rk → Qk κ s) : wpAny (model pr w) A (keyKind' us.toArray) Qk E s := by
  obtain ⟨fs, k, hl, hf⟩ := fst_prs us x
  refine PySem.W.kat_kind (T := Value.type "int") k (by omega) (fun f hfm => ?_) rfl (fin _ fun a b ha hb Q2 E2 hQ2 => ?_)
  · obtain ⟨n, t, rfl⟩ := hf f hfm
    exact PySem.W.Looks.of_pure rfl
  · rw [pairsOf_toList] at ha hb
    obtain ⟨p, i, tp, ip⟩ := x _ (mem_zip_self ha).2
    obtain ⟨q, j, tq, jq⟩ := x _ (mem_zip_self hb).2
    rw [hrk _ (mem_zip_self ha).2 _ _ tp, hrk _ (mem_zip_self hb).2 _ _ tq] at hQ2
    obtain ⟨a1, xs, o1, n1, t1, t2, e1, ho1, hc1, hd1, l1⟩ := raw_pair tp
    obtain ⟨a2, ys, o2, n2, t3, t4, e2, ho2, hc2, hd2, l2⟩ := raw_pair tq
    rw [e1, e2]
    refine PySem.W.kat_lt ho1 hd1 ho2 hd2 ?_
    have s1 : xs.size = 2 := by rw [← Array.length_toList, l1]; rfl
    have s2 : ys.size = 2 := by rw [← Array.length_toList, l2]; rfl
    rw [s1, s2, l1, l2]
    exact pair_lex ip jq hQ2
theorem sort_prs {a : Addr} {us : List Value} {n : Nat} {B : Int} {P : PySem.Fin → Shared → Prop} (ho : s.heap.get? a = some (seqObj "list" us.toArray n)) (few : us.length < 64) (x : PrsOk s.heap B us) (rk : Value → Int) (hrk : ∀ u ∈ us, ∀ p i, TS.TupInts s.heap u [p, i] → rk u = p * B + i)
    (fin : ∀ out : Array Value, out.toList.Perm us → out.toList.Pairwise (fun u v => rk u ≤ rk v) → P (.done (.ret .none)) { s with heap := sortedHeap s.heap a us out }) :
    wpAny (model pr w) A (Builtin.«list.sort» ⟨[.ref a], []⟩) P E s := by
  have same : ∀ b o, s.heap.get? b = some o → o.cls = .type "tuple" → (TS.midHeap s.heap a us).get? b = some o := fun b o hb hcl => by
    refine TS.midHeap_old (fun z => ?_) hb
    rw [z, ho] at hb
    cases hb
    exact absurd hcl (by intro z2; injection z2 with z3; exact absurd z3 (by decide))
  refine SK.plain_sort (r := rk) ho few (fun two Qk hQk => kind_prs (s := { s with heap := TS.midHeap s.heap a us }) two (x.kept same) rk (fun u hu p i t => ?_) Qk hQk) fun ps out z1 z2 z3 => ?_
  · obtain ⟨p0, i0, t0, _⟩ := x u hu
    have ez : [p, i] = [p0, i0] := t.ints.symm.trans (t0.keeps same).ints
    cases ez
    exact hrk u hu p i t0
  · obtain ⟨g1, g2⟩ := TS.out_rank z1 z2 z3
    exact fin out g1 g2
theorem sorted_prs {l : Addr} {us : List Value} {B : Int} {Q : Value → Shared → Prop} (hl : s.heap.IsList l us.toArray) (few : us.length < 64) (x : PrsOk s.heap B us)
    (fin : ∀ out : Array Value, out.toList.Perm us → out.toList.Pairwise (fun u v => prNum s.heap B u ≤ prNum s.heap B v) → Q (.ref (s.heap.objs.size + 1)) { s with heap := sortedAll s.heap us out }) :
    wpAny (model pr w) A (call (.builtin "sorted") [.ref l]) Q E s := by
  refine Calls.call_function_entry kind_sorted plain_sorted entry_sorted (args_sorted1 _) ?_
  unfold Builtin.«sorted»
  refine wpAny_bind (m := checkCount "sorted" 1 1 _) (wpAny_pure (wpAny_bind (collect_list hl ?_ (by rw [sizeLine_eq]; omega))))
  refine wpAny_bind (wpAny_newList ?_ (by rw [sizeLine_eq]; omega))
  generalize hm : (s.heap.push (seqObj "list" #[] 0)).update s.heap.objs.size (Obj.mapSeq (· ++ us.toArray)) = hMid
  have size1 : hMid.objs.size = s.heap.objs.size + 1 := by rw [← hm, Heap.size_update, Heap.size_push]
  have atNew : (hMid.push (seqObj "list" us.toArray 0)).get? (s.heap.objs.size + 1) = some (seqObj "list" us.toArray 0) := by rw [← size1]; exact Heap.get?_push_size _ rfl
  have same : ∀ b o, s.heap.get? b = some o → o.cls = .type "tuple" → (hMid.push (seqObj "list" us.toArray 0)).get? b = some o := fun b o hb _ => by
    have lt : b < s.heap.objs.size := Heap.lt_size hb
    have n0 : b ≠ s.heap.objs.size := Nat.ne_of_lt lt
    have n1 : b ≠ hMid.objs.size := by rw [size1]; exact Nat.ne_of_lt (Nat.lt_succ_of_lt lt)
    rw [Heap.get?_push_ne _ _ _ n1, ← hm, Heap.get?_update_ne _ _ _ _ n0, Heap.get?_push_ne _ _ _ n0]
    exact hb
  show wpAny _ _ _ _ _ { s with heap := hMid.push (seqObj "list" us.toArray 0) }
  rw [size1]
  refine wpAny_bind (wpAny_holding (wpAny_call_entry slot_list_sort ⟨_, atNew, rfl⟩ entry_list_sort (sort_prs (B := B) atNew few (x.kept same) (prNum s.heap B) (fun u hu p i t => ?_) fun out z1 z2 => ⟨_, rfl, wpAny_pure ⟨_, rfl, ?_⟩⟩) (args_list_sort _)))
  · obtain ⟨p0, i0, t0, _⟩ := x u hu
    have ez : [p, i] = [p0, i0] := t.ints.symm.trans (t0.keeps same).ints
    cases ez
    exact prNum_at t0
  · have := fin out z1 z2
    unfold sortedAll at this
    rw [← hm]
    exact this
end
inductive All2 (Rl : V → Int × Int → Prop) : List V → List (Int × Int) → Prop
  | nil : All2 Rl [] []
  | cons {x p xs ps} : Rl x p → All2 Rl xs ps → All2 Rl (x :: xs) (p :: ps)
inductive All3 (Rl : V → Int × Int → Prop) : List Value → List V → List (Int × Int) → Prop
  | nil : All3 Rl [] [] []
  | cons {u x p us xs ps} : RelV x u → Rl x p → All3 Rl us xs ps → All3 Rl (u :: us) (x :: xs) (p :: ps)
section
variable {Rl : V → Int × Int → Prop}
theorem All3.of : ∀ {us : List Value} {xs : List V} {ps : List (Int × Int)}, Vals xs us → All2 Rl xs ps → All3 Rl us xs ps
  | _, _, _, .nil, .nil => .nil
  | _, _, _, .cons r t, .cons a b => .cons r a (All3.of t b)
theorem All3.two : ∀ {us : List Value} {xs : List V} {ps : List (Int × Int)}, All3 Rl us xs ps → Vals xs us ∧ All2 Rl xs ps
  | _, _, _, .nil => ⟨.nil, .nil⟩
  | _, _, _, .cons r a t => ⟨.cons r t.two.1, .cons a t.two.2⟩
theorem All3.at {us : List Value} {xs : List V} {ps : List (Int × Int)} (h : All3 Rl us xs ps) : ∀ u ∈ us, ∃ x p, RelV x u ∧ Rl x p ∧ p ∈ ps := by
  induction h with
  | nil => intro u hu; cases hu
  | cons r a t ih =>
    intro u hu
    rcases List.mem_cons.mp hu with rfl | hu
    · exact ⟨_, _, r, a, List.mem_cons_self⟩
    · obtain ⟨x, p, h1, h2, h3⟩ := ih u hu
      exact ⟨x, p, h1, h2, List.mem_cons_of_mem _ h3⟩
theorem All3.perm {us' us : List Value} (hp : us'.Perm us) : ∀ {xs : List V} {ps : List (Int × Int)}, All3 Rl us xs ps → ∃ xs' ps', All3 Rl us' xs' ps' ∧ xs'.Perm xs ∧ ps'.Perm ps := by
  induction hp with
  | nil => intro xs ps h; cases h; exact ⟨[], [], .nil, .nil, .nil⟩
  | cons u _ ih =>
    intro xs ps h
    cases h with
    | cons r a t =>
      obtain ⟨xs', ps', h1, h2, h3⟩ := ih t
      exact ⟨_, _, .cons r a h1, h2.cons _, h3.cons _⟩
  | swap u v l =>
    intro xs ps h
    cases h with
    | cons r a t =>
      cases t with
      | cons r2 a2 t2 => exact ⟨_, _, .cons r2 a2 (.cons r a t2), .swap _ _ _, .swap _ _ _⟩
  | trans _ _ ih1 ih2 =>
    intro xs ps h
    obtain ⟨x1, p1, h1, h2, h3⟩ := ih2 h
    obtain ⟨x2, p2, g1, g2, g3⟩ := ih1 h1
    exact ⟨x2, p2, g1, g2.trans h2, g3.trans h3⟩
theorem All3.pw {f : Value → Int} {g : Int × Int → Int} {us : List Value} {xs : List V} {ps : List (Int × Int)} (h : All3 Rl us xs ps) (e : ∀ u x p, RelV x u → Rl x p → f u = g p) (hw : us.Pairwise (fun u v => f u ≤ f v)) : ps.Pairwise (fun p q => g p ≤ g q) ∧ ∀ q ∈ ps, ∃ v ∈ us, f v = g q := by
  induction h with
  | nil => exact ⟨.nil, fun q hq => by cases hq⟩
  | cons r a t ih =>
    obtain ⟨h1, h2⟩ := List.pairwise_cons.mp hw
    obtain ⟨i1, i2⟩ := ih h2
    refine ⟨List.pairwise_cons.mpr ⟨fun q hq => ?_, i1⟩, fun q hq => ?_⟩
    · obtain ⟨v, hv, ev⟩ := i2 q hq
      rw [← ev, ← e _ _ _ r a]
      exact h1 v hv
    · rcases List.mem_cons.mp hq with rfl | hq
      · exact ⟨_, List.mem_cons_self, e _ _ _ r a⟩
      · obtain ⟨v, hv, ev⟩ := i2 q hq
        exact ⟨v, List.mem_cons_of_mem _ hv, ev⟩
end
noncomputable def rSortPr (K : PySem.W.Frag) (B : Int) : List V → Hp → VK → Prop := fun vs H Q => ∃ (Rl : V → Int × Int → Prop) (a : Addr) (xs : List V) (ps : List (Int × Int)), vs = [V.ref a] ∧ SqL K H a xs ∧ xs.length < 64 ∧ All2 Rl xs ps ∧
  (∀ x p, Rl x p → ∃ t, x = .ref t ∧ SqT K H t [.int p.1, .int p.2]) ∧ (∀ p ∈ ps, 0 ≤ p.2 ∧ p.2 < B) ∧
  ∀ (ys : List V) (qs : List (Int × Int)) (l : Addr), All2 Rl ys qs → ys.Perm xs → qs.Perm ps → qs.Pairwise (fun p q => p.1 * B + p.2 ≤ q.1 * B + q.2) → H l = none → Q (.ref l) (upd H l (.lst ys))
variable {X : Cx}
theorem cr_sortPr {B : Int} : CallR X (.builtin "sorted") (rSortPr X.K B) := by
  intro pins s σ H vs us Q I r h
  obtain ⟨Rl, a, xs, ps, rfl, hs, few, al, rd, bd, fin⟩ := h
  obtain ⟨its, rv, hl, hz⟩ := I.list hs
  rw [Vals.ref1 r]
  have a3 := All3.of rv al
  have raw : ∀ (x : V) (u : Value) (p : Int × Int), RelV x u → Rl x p → TS.TupInts s.heap u [p.1, p.2] := fun x u p rx hp => by
    obtain ⟨t, rfl, ht⟩ := rd x p hp
    obtain rfl : u = Value.ref t := rx
    exact tupI_raw I (ns := [p.1, p.2]) ht
  refine sorted_prs (B := B) hl.isList (by rw [← rv.length]; exact few) (fun u hu => ?_) fun out p1 p2 => ?_
  · obtain ⟨x, p, rx, hp, hm⟩ := a3.at u hu
    exact ⟨p.1, p.2, raw x u p rx hp, bd p hm⟩
  · obtain ⟨ep, he'⟩ := PyProof.Rows.sortedAll_at s.heap its out
    obtain ⟨ys, qs, b3, hy, hq⟩ := All3.perm p1 a3
    have hlen : ys.length ≤ sizeLine := by rw [hy.length_eq]; exact hz
    have pw := (b3.pw (f := prNum s.heap B) (g := fun p => p.1 * B + p.2) (fun u x p rx hp => prNum_at (raw x u p rx hp)) p2).1
    exact ⟨.ref _, upd H (s.heap.objs.size + 1) (.lst ys), I.laid (t' := s.toks) (fun _ _ => PyProof.Rows.sortedAll_old) (Nat.le_succ _) ⟨hlen, out.toList, ep, b3.two.1, he'⟩, rfl, fin ys qs _ b3.two.2 hy hq pw (I.hok.fresh (Nat.le_succ _))⟩
noncomputable def ePr (p : Int × Int) : D := .tup [.int p.1, .int p.2]
noncomputable def prsD : List D → Option (List (Int × Int))
  | [] => some []
  | .tup [.int a, .int b] :: ds => (prsD ds).map ((a, b) :: ·)
  | _ => none
theorem prsD_eq : ∀ {ds : List D} {ps : List (Int × Int)}, prsD ds = some ps → ds = ps.map ePr
  | [], ps, e => by cases e; rfl
  | d :: ds, ps, e => by
    unfold prsD at e
    split at e
    · rename_i h; cases h
    · rename_i a b ds' h
      cases h
      cases e2 : prsD ds with
      | none => rw [e2] at e; cases e
      | some qs =>
        rw [e2] at e
        cases e
        rw [prsD_eq e2]
        rfl
    · cases e
theorem prsD_map (ps : List (Int × Int)) : prsD (ps.map ePr) = some ps := by
  induction ps with
  | nil => rfl
  | cons p ps ih =>
    rw [List.map_cons]
    show (prsD (ps.map ePr)).map ((p.1, p.2) :: ·) = _
    rw [ih]
    rfl
noncomputable def fSortPr : PFn := fun ds P => match ds with
  | [.lst es] => (match prsD es with
    | some ps => ps.length < 64 ∧ (∀ p ∈ ps, 0 ≤ p.2 ∧ p.2 < 1000) ∧ ∀ qs : List (Int × Int), qs.Perm ps → qs.Pairwise (fun p q => p.1 * 1000 + p.2 ≤ q.1 * 1000 + q.2) → P (.lst (qs.map ePr))
    | none => False)
  | _ => False
theorem all2_of {C : Ctx} {G : Gp} : ∀ {xs : List V} {ps : List (Int × Int)}, RAll C G xs (ps.map ePr) → All2 (fun x p => R C G x (ePr p)) xs ps
  | _, [], r => by cases r; exact .nil
  | _, p :: ps, r => by
    rw [List.map_cons] at r
    cases r with
    | cons a t => exact .cons a (all2_of t)
theorem rall_of {C : Ctx} {G : Gp} {xs : List V} {ps : List (Int × Int)} (h : All2 (fun x p => R C G x (ePr p)) xs ps) : RAll C G xs (ps.map ePr) := by
  induction h with
  | nil => exact .nil
  | cons a t ih => exact .cons a ih
theorem cl_sortPr : CLo X (rSortPr X.K 1000) fSortPr := by
  refine ⟨fun {G H vs ds Q P} k r0 p q => ?_⟩
  unfold fSortPr at p
  split at p
  · split at p
    · rename_i ps e
      obtain ⟨v, rfl, r⟩ := r0.one
      obtain ⟨a, xs, rfl, h, r⟩ := r.lst k
      rw [prsD_eq e] at r
      obtain ⟨few, bd, fin⟩ := p
      refine ⟨fun x p => R (cx X) G x (ePr p), a, xs, ps, rfl, SqL.of h, by rw [r.length, List.length_map]; exact few, all2_of r, fun x p hp => ?_, bd, fun ys qs l h1 h2 h3 h4 hl => ?_⟩
      · unfold ePr at hp
        cases hp with
        | @tup t zs _ ht rz =>
          have ez := RAll.int (ns := [p.1, p.2]) rz
          rw [ez] at ht
          exact ⟨t, rfl, ht.seq k⟩
      · exact q l ys _ G _ (Ext.new k hl) hl upd_same (k.none_of hl) (rall_of h1) (fin qs h3 h4)
    · exact p.elim
  · exact p.elim
end Pu
set_option Elab.async false
set_option linter.all false
set_option maxRecDepth 100000
set_option maxHeartbeats 2000000
set_option autoImplicit false
namespace Pu
open PySem PySem.Spec PyProof.Rows L2
theorem shaped_int (i : Int) : SeqAt.shaped (.int i) = true := rfl
theorem fEq_int {i j : Int} {P : D → Prop} : fEq (.int i) (.int j) P ↔ P (.bl (decide (i = j))) := by
  unfold fEq
  constructor
  · rintro ⟨a, b, h1, h2, _, _, p⟩
    cases h1; cases h2
    have e : PyData.eqv (.int i) (.int j) = decide (i = j) := by
      show (i == j) = decide (i = j)
      by_cases h : i = j <;> simp [h]
    rw [e] at p
    exact p
  · intro p
    refine ⟨.int i, .int j, rfl, rfl, shaped_int i, shaped_int j, ?_⟩
    have e : PyData.eqv (.int i) (.int j) = decide (i = j) := by
      show (i == j) = decide (i = j)
      by_cases h : i = j <;> simp [h]
    rw [e]
    exact p
theorem fNe_int {i j : Int} {P : D → Prop} : fNe (.int i) (.int j) P ↔ P (.bl (decide (i ≠ j))) := by
  unfold fNe
  have e : (!PyData.eqv (.int i) (.int j)) = decide (i ≠ j) := by
    show (!(i == j)) = decide (i ≠ j)
    by_cases h : i = j <;> simp [h]
  constructor
  · rintro ⟨a, b, h1, h2, _, _, p⟩
    cases h1; cases h2
    rw [e] at p
    exact p
  · intro p
    refine ⟨.int i, .int j, rfl, rfl, shaped_int i, shaped_int j, ?_⟩
    rw [e]
    exact p
theorem mulOk_small {i j : Int} (h : (-(2 ^ 64) < i ∧ i < 2 ^ 64) ∨ (-(2 ^ 64) < j ∧ j < 2 ^ 64)) : mulOk i j := .inl h
theorem log2_lt {n k : Nat} (h : n < 2 ^ k) (hk : 0 < k) : n.log2 < k := by
  by_cases e : n = 0
  · rw [e, show Nat.log2 0 = 0 by decide]
    exact hk
  · exact (Nat.log2_lt e).mpr h
theorem divOk {i j : Int} (h : 0 < j) (h2 : j < 2 ^ 200) : CDivW i j := ⟨h, Nat.lt_of_lt_of_le (log2_lt (k := 200) (by
  have : (j.natAbs : Int) = j := Int.natAbs_of_nonneg (Int.le_of_lt h)
  have h3 : (j.natAbs : Int) < ((2 ^ 200 : Nat) : Int) := by rw [this]; exact_mod_cast h2
  exact_mod_cast h3) (by decide)) (by decide)⟩
end Pu
namespace Pu
open PySem PySem.Spec PyProof.Rows L2
section
variable {δ : Dl} {P : PEnds} {i : Nat} {a b : PSx} {pe pa pb pc pk : PX} {f f' : POp} {p : PAx} {pt pt' : PTx} {Q : D → Prop} {QL : List D → Prop} {QT : Bool → Prop} {Q2 : Exn → Prop}
theorem w_seq (h : a { P with nx := b P } δ) : pSeq a b P δ := h
theorem w_asg (h : pe δ (fun d => P.nx (δ.set i (some (.d d)))) (P.ex δ)) : pAsg pe i P δ := h
theorem w_asgO (h : pe δ (fun d => match d with | .lst ds => P.nx (δ.set i (some (.own none ds))) | _ => False) (P.ex δ)) : pAsgO pe i P δ := h
theorem w_ret (h : pe δ (P.rt δ) (P.ex δ)) : pRet pe P δ := h
theorem w_if (h : pt δ (fun k => if k = true then a P δ else b P δ) (P.ex δ)) : pIf pt a b P δ := h
theorem w_next (h : P.nx δ) : pNext P δ := h
theorem w_drop (h : pe δ (fun _ => P.nx δ) (P.ex δ)) : pDrop pe P δ := h
theorem w_ite {c : Bool} {A B : Prop} (h1 : c = true → A) (h2 : c = false → B) : if c = true then A else B := by
  cases c
  · rw [if_neg (by decide)]; exact h2 rfl
  · rw [if_pos rfl]; exact h1 rfl
theorem w_dec {p : Prop} [Decidable p] {A B : Prop} (h1 : p → A) (h2 : ¬ p → B) : if decide p = true then A else B := w_ite (fun e => h1 (of_decide_eq_true e)) fun e => h2 (of_decide_eq_false e)
theorem e_var {d : D} (e : δ[i]? = some (some (.d d))) (h : Q d) : pVar i δ Q Q2 := by unfold pVar; rw [e]; exact h
theorem e_varV {d : D} (e : δ[i]? = some (some (.d d))) (h : Q d) : pVarV i δ Q Q2 := by unfold pVarV; rw [e]; exact h
theorem e_varO {oa : Option Addr} {ds : List D} (e : δ[i]? = some (some (.own oa ds))) (h : Q (.lst ds)) : pVarV i δ Q Q2 := by unfold pVarV; rw [e]; exact h
theorem e_c {d : D} (h : Q d) : pC d δ Q Q2 := h
theorem e_op (h : pa δ (fun x => pb δ (fun y => f x y Q) Q2) Q2) : pOp f pa pb δ Q Q2 := h
theorem e_cb {g : PFn} (h : p δ (fun ds => g ds Q) Q2) : pCB g p δ Q Q2 := h
theorem e_call {g : PSp} (h : p δ (fun ds => g ds Q Q2) Q2) : pCall g p δ Q Q2 := h
theorem a_nil (h : QL []) : pNil δ QL Q2 := h
theorem a_cons (h : pe δ (fun x => p δ (fun xs => QL (x :: xs)) Q2) Q2) : pCons pe p δ QL Q2 := h
theorem t_tst (h : pe δ (fun x => match x with | .bl b => QT b | _ => False) Q2) : pTst pe δ QT Q2 := h
theorem t_and (h : pt δ (fun c => if c = true then pt' δ QT Q2 else QT false) Q2) : pAndT pt pt' δ QT Q2 := h
theorem t_or (h : pt δ (fun c => if c = true then QT true else pt' δ QT Q2) Q2) : pOrT pt pt' δ QT Q2 := h
theorem t_not (h : pt δ (fun c => QT (!c)) Q2) : pNotT pt δ QT Q2 := h
theorem e_tup (h : p δ (fun ds => ds.length ≤ szl ∧ Q (.tup ds)) Q2) : pTup p δ Q Q2 := h
theorem e_lst (h : p δ (fun ds => ds.length ≤ szl ∧ Q (.lst ds)) Q2) : pLst p δ Q Q2 := h
theorem e_ifE (h : pt δ (fun c => if c = true then pa δ Q Q2 else pb δ Q Q2) Q2) : pIfE pt pa pb δ Q Q2 := h
theorem e_chain (h : pa δ (fun x => pb δ (fun y => f x y fun z => match z with | .bl k => if k = true then pc δ (fun w => f' y w Q) Q2 else Q (.bl false) | _ => False) Q2) Q2) : pChain f f' pa pb pc δ Q Q2 := h
variable {x y : Int}
theorem o_lt (h : Q (.bl (decide (x < y)))) : fLt (.int x) (.int y) Q := h
theorem o_le (h : Q (.bl (decide (x ≤ y)))) : fLe (.int x) (.int y) Q := h
theorem o_gt (h : Q (.bl (decide (y < x)))) : fGt (.int x) (.int y) Q := h
theorem o_ge (h : Q (.bl (decide (y ≤ x)))) : fGe (.int x) (.int y) Q := h
theorem o_eq (h : Q (.bl (decide (x = y)))) : fEq (.int x) (.int y) Q := fEq_int.mpr h
theorem o_ne (h : Q (.bl (decide (x ≠ y)))) : fNe (.int x) (.int y) Q := fNe_int.mpr h
theorem o_add (h : Q (.int (x + y))) : fAdd (.int x) (.int y) Q := h
theorem o_sub (h : Q (.int (x - y))) : fSub (.int x) (.int y) Q := h
theorem o_mul (c : (-(2 ^ 64) < x ∧ x < 2 ^ 64) ∨ (-(2 ^ 64) < y ∧ y < 2 ^ 64)) (h : Q (.int (x * y))) : fMul (.int x) (.int y) Q := ⟨mulOk_small c, h⟩
theorem o_mod (c : 0 < y) (h : Q (.int (x % y))) : fMod (.int x) (.int y) Q := ⟨c, h⟩
theorem o_div (c : 0 < y) (c2 : y < 2 ^ 200) (h : Q (.int (x / y))) : fDiv (.int x) (.int y) Q := ⟨divOk c c2, h⟩
theorem o_pow (c : 0 ≤ y) (c1 : y ≤ 1000000) (c2 : x.natAbs < 2 ^ 64) (h : Q (.int (x ^ y.toNat))) : fPow (.int x) (.int y) Q := ⟨⟨c, c1, c2⟩, h⟩
theorem o_ixL {ds : List D} {d : D} (e : atI ds x = some d) (h : Q d) : fIx (.lst ds) (.int x) Q := by unfold fIx; simp only [e]; exact h
theorem o_ixT {ds : List D} {d : D} (e : atI ds x = some d) (h : Q d) : fIx (.tup ds) (.int x) Q := by unfold fIx; simp only [e]; exact h
end
end Pu
namespace Pu
open PySem PySem.Spec PyProof.Rows L2
section
variable {δ : Dl} {P : PEnds} {i : Nat} {pe pk : PX} {Q : D → Prop} {x y : Int} {A B : Prop} {ds : List D} {oa : Option Addr}
theorem w_ff (h : B) : if false = true then A else B := by rw [if_neg (by decide)]; exact h
theorem w_tt (h : A) : if true = true then A else B := by rw [if_pos rfl]; exact h
theorem o_lenL (h : Q (.int ds.length)) : fLen [.lst ds] Q := h
theorem o_lenT (h : Q (.int ds.length)) : fLen [.tup ds] Q := h
theorem o_lenP {l : Addr} {ns : List Int} (h : Q (.int ns.length)) : fLen [.pin l ns] Q := h
theorem o_int (h : Q (.int x)) : fInt [.int x] Q := h
theorem o_intB {b : Bool} (h : Q (.int (if b then 1 else 0))) : fInt [.bl b] Q := h
theorem o_abs (h : Q (.int (if x < 0 then -x else x))) : fAbs [.int x] Q := h
theorem o_min (h : Q (.int (if y < x then y else x))) : fMin2 [.int x, .int y] Q := h
theorem o_max (h : Q (.int (if y > x then y else x))) : fMax2 [.int x, .int y] Q := h
theorem o_ixP {l : Addr} {ns : List Int} (c : 0 ≤ x) (c2 : x < ns.length) (h : ∀ z, z ∈ ns → Q (.int z)) : fIx (.pin l ns) (.int x) Q := by
  unfold fIx
  have hl : x.toNat < ns.length := by omega
  have e : atI (ns.map D.int) x = some (D.int (ns[x.toNat]'hl)) := by
    unfold atI ixN
    rw [if_pos c, if_pos (by rw [List.length_map]; exact c2)]
    show (ns.map D.int)[x.toNat]? = _
    rw [List.getElem?_map, List.getElem?_eq_getElem hl]
    try rfl
  simp only [e]
  exact h _ (List.getElem_mem _)
noncomputable def ixSet (ds : List D) (d : D) (K : List D → Prop) : D → Prop
  | .int j => (match ixN ds.length j with | some n => K (ds.set n d) | none => False)
  | _ => False
theorem w_setO (e : δ[i]? = some (some (.own oa ds))) (h : pe δ (fun d => pk δ (ixSet ds d fun ds' => P.nx (δ.set i (some (.own oa ds')))) (P.ex δ)) (P.ex δ)) : pSetI i pk pe P δ := by
  unfold pSetI
  rw [e]
  have e2 : (fun d => pk δ (ixSet ds d fun ds' => P.nx (δ.set i (some (.own oa ds')))) (P.ex δ)) = fun d => (match (some (some (S.own oa ds)) : Option (Option S)) with
    | some (some (.own oa ds)) => pk δ (fun k => match k with
      | .int j => (match ixN ds.length j with | some n => P.nx (δ.set i (some (.own oa (ds.set n d)))) | none => False)
      | _ => False) (P.ex δ)
    | _ => False) := by
    funext d
    show pk δ _ _ = pk δ _ _
    congr 1
    try (funext k; cases k <;> rfl)
  rw [e2] at h
  exact h
theorem o_set {d : D} {K : List D → Prop} {n : Nat} (e : ixN ds.length x = some n) (h : K (ds.set n d)) : ixSet ds d K (.int x) := by
  unfold ixSet
  simp only [e]
  exact h
end
end Pu
namespace Pu
open PySem PySem.Spec PyProof.Rows L2
theorem o_powL {Q : D → Prop} {x y n : Int} (c : 0 ≤ y) (c1 : y ≤ 1000000) (c2 : x.natAbs < 2 ^ 64) (e : x ^ y.toNat = n) (h : Q (.int n)) : fPow (.int x) (.int y) Q := ⟨⟨c, c1, c2⟩, by
  show Q (.int (x ^ y.toNat))
  rw [e]
  exact h⟩
theorem o_pow8 {Q : D → Prop} (h : Q (.int 100000000)) : fPow (.int 10) (.int 8) Q := o_powL (by decide) (by decide) (by decide) (by decide) h
theorem o_pow12 {Q : D → Prop} (h : Q (.int 1000000000000)) : fPow (.int 10) (.int 12) Q := o_powL (by decide) (by decide) (by decide) (by decide) h
theorem o_pow18 {Q : D → Prop} (h : Q (.int 1000000000000000000)) : fPow (.int 10) (.int 18) Q := o_powL (by decide) (by decide) (by decide) (by decide) h
theorem o_pow25 {Q : D → Prop} (h : Q (.int 10000000000000000000000000)) : fPow (.int 10) (.int 25) Q := o_powL (by decide) (by decide) (by decide) (by decide) h
theorem o_pow30 {Q : D → Prop} (h : Q (.int 1000000000000000000000000000000)) : fPow (.int 10) (.int 30) Q := o_powL (by decide) (by decide) (by decide) (by decide) h
theorem o_pow31 {Q : D → Prop} (h : Q (.int 10000000000000000000000000000000)) : fPow (.int 10) (.int 31) Q := o_powL (by decide) (by decide) (by decide) (by decide) h
end Pu
namespace Pu
open PySem PySem.Spec PyProof.Rows L2
section
variable {δ : Dl} {P : PEnds} {i : Nat} {pi : PLx} {pg : PG'} {pb : PSx} {pe pf : PX} {QL : List D → Prop} {Q2 : Exn → Prop}
theorem w_for (h : pi δ (fun ds => pForL pg pb P ds δ) (P.ex δ)) : pFor pi pg pb P δ := h
theorem w_for0 (h : P.nx δ) : pForL pg pb P [] δ := h
theorem w_for1 {d : D} {ds : List D} (h : pg d δ fun δ' => pb { P with nx := pForL pg pb P ds, ct := pForL pg pb P ds, bk := P.nx } δ') : pForL pg pb P (d :: ds) δ := h
theorem w_forI (I : List D → Dl → Prop) (h0 : ∀ δ, I [] δ → P.nx δ)
    (h1 : ∀ (d : D) (ds : List D) (δ : Dl) (k : Dl → Prop), I (d :: ds) δ → (∀ δ', I ds δ' → k δ') → pg d δ fun δ' => pb { P with nx := k, ct := k, bk := P.nx } δ') : ∀ (ds : List D) (δ : Dl), I ds δ → pForL pg pb P ds δ
  | [], δ, h => h0 δ h
  | d :: ds, δ, h => h1 d ds δ _ h fun δ' h' => w_forI I h0 h1 ds δ' h'
theorem l_range1 (h : pe δ (fun d => match d with | .int j => b62 j ∧ QL (rangeD 0 j.toNat) | _ => False) Q2) : pRange1 pe δ QL Q2 := h
theorem l_range2 (h : pe δ (fun d => pf δ (fun e => match d, e with | .int i, .int j => b62 i ∧ b62 j ∧ QL (rangeD i (j - i).toNat) | _, _ => False) Q2) Q2) : pRange2 pe pf δ QL Q2 := h
theorem l_seq (h : pe δ (fun d => match itemsD d with | some ds => QL ds | none => False) Q2) : pItems pe δ QL Q2 := h
theorem g_name {d : D} {K : Dl → Prop} (h : K (δ.set i (some (.d d)))) : pgName i d δ K := h
end
end Pu
namespace Pu
open PySem PySem.Spec PyProof.Rows L2
theorem o_ixPool {Q : D → Prop} (h : ∀ s : Int, 0 ≤ s → Q (.int s)) : fIx .pool (.int 0) Q := ⟨rfl, h⟩
theorem r_rng4 {pg : PG'} {pb : PSx} {P : PEnds} {δ : Dl} (h : pForL pg pb P [.int 0, .int 1, .int 2, .int 3] δ) : pForL pg pb P (rangeD 0 (Int.toNat 4)) δ := h
end Pu
namespace Pu
open PySem PySem.Spec PyProof.Rows L2
section
variable {δ : Dl} {P : PEnds} {i : Nat} {pe pk : PX} {ps : PSx} {Q : D → Prop} {Q2 : Exn → Prop} {oa : Option Addr} {ds : List D}
theorem w_fzO (e : δ[i]? = some (some (.own oa ds))) (h : ps P (δ.set i (some (.d (.lst ds))))) : pFreeze i ps P δ := by unfold pFreeze; rw [e]; exact h
theorem w_fzD {d : D} (e : δ[i]? = some (some (.d d))) (h : ps P δ) : pFreeze i ps P δ := by unfold pFreeze; rw [e]; exact h
theorem w_ins (e : δ[i]? = some (some (.own oa ds))) (h : pk δ (fun k => pe δ (fun d => match k with
      | .int j => ds.length < szl ∧ 0 ≤ j ∧ j < 2 ^ 63 ∧ P.nx (δ.set i (some (.own oa (ds.take j.toNat ++ [d] ++ ds.drop j.toNat))))
      | _ => False) (P.ex δ)) (P.ex δ)) : pIns i pk pe P δ := by unfold pIns; rw [e]; exact h
theorem w_app (e : δ[i]? = some (some (.own oa ds))) (h : pe δ (fun d => ds.length < szl ∧ P.nx (δ.set i (some (.own oa (ds ++ [d]))))) (P.ex δ)) : pApp i pe P δ := by unfold pApp; rw [e]; exact h
theorem o_rep {x : D} {j : Int} (c : 0 ≤ j) (c2 : j ≤ 1000) (h : Q (.lst (List.replicate j.toNat x))) : fRep (.lst [x]) (.int j) Q := by
  have hz : szl = 16777216 := rfl
  refine ⟨by omega, by omega, by simp only [List.length_cons, List.length_nil]; omega, ?_⟩
  have e : (List.replicate j.toNat [x]).flatten = List.replicate j.toNat x := by
    induction j.toNat with
    | zero => rfl
    | succ n ih => rw [List.replicate_succ, List.flatten_cons, ih]; rfl
  rw [e]
  exact h
end
end Pu
namespace Pu
open PySem PySem.Spec PyProof.Rows L2
section
variable {δ : Dl} {P : PEnds} {i c : Nat} {p : PAx} {pe : PX} {Q : D → Prop} {Q2 : Exn → Prop}
theorem w_raise (h : p δ (fun ds => ds.length = (cfs c).length ∧ ds ≠ [] ∧ P.ex δ ⟨c, ds⟩) (P.ex δ)) : pRaise c p P δ := h
theorem w_retN (h : P.rt δ .non) : pRetN P δ := h
theorem w_brk (h : P.bk δ) : pBreak P δ := h
theorem w_cnt (h : P.ct δ) : pCont P δ := h
end
end Pu
namespace Pu
theorem w_ndec {p : Prop} [Decidable p] {A B : Prop} (h1 : ¬ p → A) (h2 : p → B) : if (!decide p) = true then A else B := by
  by_cases h : p
  · rw [decide_eq_true h]; exact w_ff (h2 h)
  · rw [decide_eq_false h]; exact w_tt (h1 h)
theorem w_nff {A B : Prop} (h : A) : if (!false) = true then A else B := w_tt h
theorem w_ntt {A B : Prop} (h : B) : if (!true) = true then A else B := w_ff h
end Pu
namespace Pu
open PySem PySem.Spec PyProof.Rows L2
section
variable {δ : Dl} {P : PEnds} {i : Nat} {pe pa : PX} {Q : D → Prop} {QL : List D → Prop} {Q2 : Exn → Prop} {d : D} {ds : List D} {K : Dl → Prop} {n : Nat} {u : List D → Dl → (Dl → Prop) → Prop} {t : PG'}
theorem o_lenI (e : itemsD d = some ds) (h : Q (.int ds.length)) : fLen [d] Q := by
  unfold itemsD at e
  split at e
  · cases e; exact h
  · cases e; exact h
  · cases e; exact h
  · cases e
theorem l_enum {k0 : Int} (h : pe δ (fun d => match itemsD d with | some ds => QL (enumD k0 ds) | none => False) Q2) : pEnum k0 pe δ QL Q2 := h
theorem g_seq2 {d1 d2 : D} (h : u [d1, d2] δ K) : pgSeq 2 u (.tup [d1, d2]) δ K := ⟨rfl, h⟩
theorem g_cons {d1 : D} {ds : List D} (h : t d1 δ (fun δ' => u ds δ' K)) : pgCons t u (d1 :: ds) δ K := h
theorem g_nil (h : K δ) : pgNil [] δ K := h
theorem o_count {ns : List Int} (e : itemsD d = some (ns.map .int)) (h : pa δ (fun y => match y with | .int k => Q (.int (ns.count k : Nat)) | _ => False) Q2) (hd : ∀ K : D → Prop, K d → pe δ K Q2) : pCount pe pa δ Q Q2 := by
  unfold pCount
  refine hd _ ?_
  simp only [e, intsD_map]
  exact h
end
end Pu
namespace Pu
open PySem PySem.Spec PyProof.Rows L2
section
variable {δ : Dl} {P : PEnds} {i c j : Nat} {pe : PX} {Q : D → Prop} {Q2 : Exn → Prop} {a : Addr} {d : D} {ds : List D}
theorem w_setF (e : δ[i]? = some (some (.slf a c ds))) (hj : ds.length = j) (h : pe δ (fun d => P.nx (δ.set i (some (.slf a c (ds ++ [d]))))) (P.ex δ)) : pSetF i c j pe P δ := by
  unfold pSetF
  rw [e]
  have e2 : (fun d => P.nx (δ.set i (some (.slf a c (ds ++ [d]))))) = fun d => (match (some (some (S.slf a c ds)) : Option (Option S)) with
    | some (some (.slf a c' ds)) => c' = c ∧ ds.length = j ∧ P.nx (δ.set i (some (.slf a c (ds ++ [d]))))
    | _ => False) := by
    funext d
    show _ = (c = c ∧ ds.length = j ∧ _)
    rw [eq_self, true_and, hj, eq_self, true_and]
  rw [e2] at h
  exact h
theorem o_tupI (e : itemsD d = some ds) (h : Q (.tup ds)) : fTuple [d] Q := by
  unfold fTuple
  simp only [e]
  exact h
end
end Pu
namespace Pu
theorem o_sumI {d : D} {ns : List Int} {Q : D → Prop} (e : itemsD d = some (ns.map .int)) (h : Q (.int (List.sum ns))) : fSumA [d] Q := by
  unfold fSumA
  simp only [e, intsD_map]
  exact h
end Pu
namespace Pu
open PySem PySem.Spec PyProof.Rows L2
section
variable {δ : Dl} {P : PEnds} {i c : Nat} {pe : PX} {pa : PAx} {pi : PSpI} {Q : D → Prop} {Q2 : Exn → Prop} {oa : Option Addr} {d : D} {ds : List D}
theorem w_ext (e : δ[i]? = some (some (.own oa ds))) (h : pe δ (fun d => match d with
      | .lst es => ds.length + es.length ≤ szl ∧ P.nx (δ.set i (some (.own oa (ds ++ es))))
      | _ => False) (P.ex δ)) : pExt i pe P δ := by unfold pExt; rw [e]; exact h
theorem e_makeV (e : δ[i]? = some (some (.d (.cls c)))) (h : pMakeW c pi pa δ Q Q2) : pMakeV i c pi pa δ Q Q2 := by unfold pMakeV; rw [e]; exact ⟨rfl, h⟩
theorem e_makeW (h : pa δ (fun ds => pi ds (fun fs => noLL fs = true ∧ Q (.obj c fs)) (fun e => noLL e.ds = true ∧ Q2 e)) Q2) : pMakeW c pi pa δ Q Q2 := h
theorem e_make (h : pa δ (fun ds => pi ds (fun fs => Q (.obj c fs)) Q2) Q2) : pMake c pi pa δ Q Q2 := h
end
noncomputable def pls : Int → List Int → List Int
  | _, [] => []
  | k, n :: ns => List.replicate n.toNat k ++ pls (k + 1) ns
end Pu
set_option Elab.async false
set_option linter.all false
set_option maxRecDepth 100000
set_option maxHeartbeats 1000000
set_option autoImplicit false
namespace Pu
open PySem PySem.Spec PyProof.Rows L2
section
variable {δ : Dl} {P : PEnds} {i : Nat} {pe pf pg : PX} {Q : D → Prop} {QL : List D → Prop} {Q2 : Exn → Prop} {vs vs1 : List Nat} {pi pi1 : PLx} {p1 p2 : PG'} {pt pt1 : PTx} {cs : List PCl} {pb : PSx}
theorem l_zip2 (h : pe δ (fun d => pf δ (fun e => match itemsD d, itemsD e with | some ds, some es => QL (zipD ds es) | _, _ => False) Q2) Q2) : pZip2 pe pf δ QL Q2 := h
theorem l_zip3 (h : pe δ (fun d => pf δ (fun e => pg δ (fun f => match itemsD d, itemsD e, itemsD f with | some ds, some es, some fs => QL (zipD3 ds es fs) | _, _, _ => False) Q2) Q2) Q2) : pZip3 pe pf pg δ QL Q2 := h
theorem e_revL (h : pe δ (fun d => match d with | .lst ds => Q (.lst ds.reverse) | _ => False) Q2) : pRevL pe δ Q Q2 := h
theorem e_lRg1 (h : pe δ (fun d => match d with | .int n => RgOk 0 n ∧ Q (.lst (rangeD 0 (n - 0).toNat)) | _ => False) Q2) : pLRg1 pe δ Q Q2 := h
theorem e_lRg2 (h : pe δ (fun d => pf δ (fun e => match d, e with | .int i, .int j => RgOk i j ∧ Q (.lst (rangeD i (j - i).toNat)) | _, _ => False) Q2) Q2) : pLRg2 pe pf δ Q Q2 := h
theorem e_lc2 (h : pi δ (fun ds => pLcOut p1 pt pi1 p2 pt1 pe (wipeD δ vs) vs1 Q ds []) Q2) : pLc2 pi p1 pt pi1 p2 pt1 pe vs vs1 δ Q Q2 := h
theorem w_tryAll (h : pb { P with ex := pCls i P cs } δ) : pTryAll i pb cs P δ := h
theorem zipD_map {α β : Type} {f : α → D} {g : β → D} : ∀ (xs : List α) (ys : List β), zipD (xs.map f) (ys.map g) = (xs.zip ys).map fun p => D.tup [f p.1, g p.2]
  | x :: xs, y :: ys => by
    show D.tup [f x, g y] :: zipD (xs.map f) (ys.map g) = _
    rw [zipD_map xs ys]
    rfl
  | [], _ => by simp [zipD]
  | _ :: _, [] => by simp [zipD]
end
section
variable {δ : Dl} {P : PEnds} {i : Nat} {q : PCl} {r : List PCl} {ex : Exn}
end
section
variable {δ : Dl} {pg pg1 : PG'} {pt pt1 : PTx} {pi1 : PLx} {pe : PX} {vs1 : List Nat} {P : D → Prop} {K : List D → Prop} {d : D} {ds es : List D}
end
end Pu
set_option Elab.async false
set_option linter.all false
set_option maxRecDepth 100000
set_option maxHeartbeats 2000000
set_option autoImplicit false
namespace Pu
open PySem PySem.Spec PyProof.Rows L2
section
variable {pg : PG'} {pt : PTx} {pe : PX} {pi : PLx} {δ δw : Dl} {Q : D → Prop} {Q2 : Exn → Prop} {P : PEnds} {pb : PSx} {vs : List Nat}
theorem w_lc (h : pi δ (fun ds => pLcL pg pt pe (wipeD δ vs) Q ds []) Q2) : pLc pi pg pt pe vs δ Q Q2 := h
theorem w_lcG {α : Type} (φ : α → D) (g : α → Option D) : ∀ (xs : List α) (es : List D), xs.length + es.length ≤ szl →
    (∀ x ∈ xs, ∀ K : Option D → Prop, K (g x) → pg (φ x) δw fun δ' => pt δ' (fun b => if b = true then pe δ' (fun y => K (some y)) (fun _ => False) else K none) fun _ => False) →
    Q (.lst (es ++ xs.filterMap g)) → pLcL pg pt pe δw Q (xs.map φ) es
  | [], es, _, _, hP => by
    show Q (.lst es)
    rw [List.filterMap_nil, List.append_nil] at hP
    exact hP
  | x :: xs, es, hl, h, hP => by
    rw [List.length_cons] at hl
    have ih := fun es' (hl' : xs.length + es'.length ≤ szl) => w_lcG φ g xs es' hl' fun y hy => h y (List.mem_cons_of_mem _ hy)
    refine h x List.mem_cons_self (fun o => match o with | some y => es.length < szl ∧ pLcL pg pt pe δw Q (xs.map φ) (es ++ [y]) | none => pLcL pg pt pe δw Q (xs.map φ) es) ?_
    cases e : g x with
    | none =>
      rw [List.filterMap_cons_none e] at hP
      exact ih es (by omega) hP
    | some y =>
      rw [List.filterMap_cons_some e] at hP
      refine ⟨by omega, ih _ (by rw [List.length_append, List.length_singleton]; omega) ?_⟩
      rw [List.append_assoc]
      exact hP
theorem w_lcT {α : Type} (φ : α → D) (xs : List α) (g : α → Option D) {ds : List D} (e : ds = xs.map φ) (hl : xs.length ≤ szl)
    (h : ∀ x ∈ xs, ∀ K : Option D → Prop, K (g x) → pg (φ x) δw fun δ' => pt δ' (fun b => if b = true then pe δ' (fun y => K (some y)) (fun _ => False) else K none) fun _ => False)
    (hP : Q (.lst (xs.filterMap g))) : pLcL pg pt pe δw Q ds [] := by
  rw [e]
  exact w_lcG φ g xs [] (by simpa using hl) h (by rw [List.nil_append]; exact hP)
theorem w_lcM {α : Type} (φ : α → D) (xs : List α) (g : α → D) {ds : List D} (e : ds = xs.map φ) (hl : xs.length ≤ szl)
    (h : ∀ x ∈ xs, ∀ K : D → Prop, K (g x) → pg (φ x) δw fun δ' => pe δ' K fun _ => False)
    (hP : Q (.lst (xs.map g))) : pLcL pg pYes pe δw Q ds [] := by
  refine w_lcT φ xs (fun x => some (g x)) e hl (fun x hx K hK => ?_) ?_
  · exact h x hx (fun y => K (some y)) hK
  · rw [List.filterMap_eq_map']
    exact hP
theorem w_forP {α : Type} (φ : α → D) (xs : List α) (I : List α → Dl → Prop) {ds : List D} (e : ds = xs.map φ) (h0 : ∀ δ, I xs δ → P.nx δ)
    (h1 : ∀ (pre : List α) (x : α) (post : List α) (δ : Dl) (k : Dl → Prop), xs = pre ++ x :: post → I pre δ → (∀ δ', I (pre ++ [x]) δ' → k δ') → pg (φ x) δ fun δ' => pb { P with nx := k, ct := k, bk := P.nx } δ')
    {δ : Dl} (h : I [] δ) : pForL pg pb P ds δ := by
  rw [e]
  refine w_forI (fun rest δ => ∃ pre post, xs = pre ++ post ∧ rest = post.map φ ∧ I pre δ) ?_ ?_ _ _ ⟨[], xs, rfl, rfl, h⟩
  · rintro δ ⟨pre, post, e1, e2, hI⟩
    have : post = [] := List.map_eq_nil_iff.mp e2.symm
    subst this
    rw [List.append_nil] at e1
    exact h0 δ (e1 ▸ hI)
  · rintro d ds δ k ⟨pre, post, e1, e2, hI⟩ hk
    cases post with
    | nil => cases e2
    | cons x post =>
      rw [List.map_cons] at e2
      injection e2 with e3 e4
      rw [e3]
      refine h1 pre x post δ k e1 hI fun δ' h' => hk δ' ⟨pre ++ [x], post, ?_, e4, h'⟩
      rw [List.append_assoc]
      exact e1
end
theorem rangeD_map (lo : Int) (n : Nat) : rangeD lo n = (List.range n).map fun (i : Nat) => D.int (lo + i) := rfl
theorem enumD_map {α : Type} (φ : α → D) (k0 : Int) : ∀ (xs : List α), enumD k0 (xs.map φ) = (xs.zipIdx).map fun (p : α × Nat) => D.tup [.int (k0 + p.2), φ p.1] := by
  intro xs
  have key : ∀ (xs : List α) (k : Nat), enumD (k0 + k) (xs.map φ) = (xs.zipIdx k).map fun (p : α × Nat) => D.tup [.int (k0 + p.2), φ p.1] := by
    intro xs
    induction xs with
    | nil => intro k; rfl
    | cons x xs ih =>
      intro k
      rw [List.map_cons, List.zipIdx_cons, List.map_cons]
      unfold enumD
      congr 1
      rw [← ih (k + 1)]
      congr 1
      omega
  have := key xs 0
  simpa using this
noncomputable def okS : Nat → D → Prop
  | 0, _ => False
  | _ + 1, .non => True
  | _ + 1, .bl _ => True
  | _ + 1, .int _ => True
  | _ + 1, .str s => PyData.strOk s = true
  | n + 1, .lst ds => ds.length ≤ szl ∧ ∀ d ∈ ds, okS n d
  | n + 1, .vw ds => ds.length ≤ szl ∧ ∀ d ∈ ds, okS n d
  | n + 1, .tup ds => ds.length ≤ szl ∧ ∀ d ∈ ds, okS n d
  | _ + 1, _ => False
theorem okS_ints {n : Nat} (ns : List Int) : ∀ d ∈ ns.map D.int, okS (n + 1) d := by
  intro d hd
  obtain ⟨i, _, rfl⟩ := List.mem_map.mp hd
  trivial
noncomputable def truK (F : Bool → D → Prop) (x : D) : Prop := match truD x with | some k => F k x | none => False
noncomputable def tyK (T : String) (F : Bool → Prop) (x : D) : Prop := match isTy T x with | some b => F b | none => False
noncomputable def clK (c : Nat) (cs : List Nat) (F : Bool → Prop) (x : D) : Prop := match isCl c cs x with | some b => F b | none => False
noncomputable def fldK (tbl : List (Nat × Nat)) (Q : D → Prop) (x : D) : Prop := match x with
  | .obj c ds => (match tbl.lookup c with | some j => (match ds[j]? with | some d => Q d | none => False) | none => False)
  | _ => False
noncomputable def objK (c : Nat) (F : Nat → List D → Prop) (x : D) : Prop := match x with | .obj c' ds => c' = c ∧ F c' ds | _ => False
section
variable {F : Bool → D → Prop} {F1 : Bool → Prop} {Q : D → Prop} {c : Nat} {cs : List Nat} {ds : List D} {x : D} {b : Bool}
theorem k_truB (h : F b (.bl b)) : truK F (.bl b) := h
theorem k_truN (h : F false .non) : truK F .non := h
theorem k_ty_bool_int {i : Int} (h : F1 false) : tyK "bool" F1 (.int i) := h
theorem k_ty_int_int {i : Int} (h : F1 true) : tyK "int" F1 (.int i) := h
theorem k_ty_tuple_tup (h : F1 true) : tyK "tuple" F1 (.tup ds) := h
theorem k_tyt {T : String} (e : isTy T x = some true) (h : F1 true) : tyK T F1 x := by
  unfold tyK
  simp only [e]
  exact h
theorem k_tyf {T : String} (e : isTy T x = some false) (h : F1 false) : tyK T F1 x := by
  unfold tyK
  simp only [e]
  exact h
theorem k_clOt {c' : Nat} (e1 : cs.contains c' = true) (e2 : (c' == c) = true) (h : F1 true) : clK c cs F1 (.obj c' ds) := by
  unfold clK isCl
  simp only [e1, if_true, e2]
  exact h
theorem k_clOf {c' : Nat} (e1 : cs.contains c' = true) (e2 : (c' == c) = false) (h : F1 false) : clK c cs F1 (.obj c' ds) := by
  unfold clK isCl
  simp only [e1, if_true, e2]
  exact h
theorem k_clN {t : String} (e : tyD x = some t) (h : F1 false) : clK c cs F1 x := by
  unfold clK isCl
  cases x <;> first | (simp only [e]; exact h) | cases e
theorem k_fld {tbl : List (Nat × Nat)} {j : Nat} (h1 : tbl.lookup c = some j) (h2 : ds[j]? = some x) (q : Q x) : fldK tbl Q (.obj c ds) := by
  unfold fldK
  simp only [h1, h2]
  exact q
theorem k_obj {F : Nat → List D → Prop} (h : F c ds) : objK c F (.obj c ds) := ⟨rfl, h⟩
end
section
variable {δ : Dl} {P : PEnds} {i : Nat} {pe pa pb : PX} {p : PAx} {Q : D → Prop} {QT : Bool → Prop} {Q2 : Exn → Prop} {pt : PTx}
theorem t_truK (h : pe δ (truK fun k _ => QT k) Q2) : pTru pe δ QT Q2 := h
theorem e_and (h : pa δ (truK fun k x => if k = true then pb δ Q Q2 else Q x) Q2) : pAndV pa pb δ Q Q2 := h
theorem e_or (h : pa δ (truK fun k x => if k = true then Q x else pb δ Q Q2) Q2) : pOrV pa pb δ Q Q2 := h
theorem e_not (h : pa δ (truK fun k _ => Q (.bl (!k))) Q2) : pNotV pa δ Q Q2 := h
theorem e_isT {T : String} (h : pe δ (tyK T fun b => Q (.bl b)) Q2) : pIsT T pe δ Q Q2 := h
theorem e_isC {c : Nat} {cs : List Nat} (h : pe δ (clK c cs fun b => Q (.bl b)) Q2) : pIsC c cs pe δ Q Q2 := h
theorem e_callW {g : PSp} (h : p δ (fun ds => g ds (fun d => noL d = true ∧ Q d) (fun e => noLL e.ds = true ∧ Q2 e)) Q2) : pCallW g p δ Q Q2 := h
theorem e_cm {g : PSp} {c : Nat} (h : p δ (fun ds => g (.cls c :: ds) (fun d => noL d = true ∧ Q d) (fun e => noLL e.ds = true ∧ Q2 e)) Q2) : pCm c g p δ Q Q2 := h
theorem e_fld {tbl : List (Nat × Nat)} (h : pe δ (fldK tbl Q) Q2) : pFld tbl pe δ Q Q2 := h
theorem e_prop {c : Nat} {g : PSp} (h : pe δ (objK c fun c' ds => g [.obj c' ds] Q (fun _ => False)) Q2) : pProp c g pe δ Q Q2 := h
theorem e_meth {c : Nat} {g : PSp} (h : pe δ (objK c fun c' ds0 => p δ (fun ds => g (.obj c' ds0 :: ds) Q Q2) Q2) Q2) : pMeth c g pe p δ Q Q2 := h
theorem w_try {f : Nat → Option Bool} {ps : Addr → Value → Option Addr → PSx} {pb : PSx} (h : pb { P with ex := pTryEx i f ps P } δ) : pTryAs i f pb ps P δ := h
theorem e_xm {a : Addr} {cls : Value} {d : Option Addr} {tbl : List (Nat × Nat)} {e : Exn} {j : Nat} {x : D} (h : δ[i]? = some (some (.exc a cls d e))) (h1 : tbl.lookup e.c = some j) (h2 : e.ds[j]? = some x) (q : Q x) : pXm a cls d i tbl δ Q Q2 := by
  unfold pXm
  rw [h]
  refine ⟨rfl, rfl, rfl, ?_⟩
  simp only [h1, h2]
  exact q
theorem e_isX {a : Addr} {cls : Value} {d : Option Addr} {f : Nat → Option Bool} {e : Exn} {b : Bool} (h : δ[i]? = some (some (.exc a cls d e))) (h1 : f e.c = some b) (q : Q (.bl b)) : pIsX a cls d i f δ Q Q2 := by
  unfold pIsX
  rw [h]
  refine ⟨rfl, rfl, rfl, ?_⟩
  simp only [h1]
  exact q
theorem o_isNf {x : D} (e : isNon x = false) (q : Q (.bl false)) : fIsN x .non Q := by
  show Q (.bl (isNon x))
  rw [e]; exact q
theorem o_isNt {x : D} (e : isNon x = true) (q : Q (.bl true)) : fIsN x .non Q := by
  show Q (.bl (isNon x))
  rw [e]; exact q
theorem o_notNf {x : D} (e : isNon x = false) (q : Q (.bl true)) : fNotN x .non Q := by
  show Q (.bl (!isNon x))
  rw [e]; exact q
theorem o_notNt {x : D} (e : isNon x = true) (q : Q (.bl false)) : fNotN x .non Q := by
  show Q (.bl (!isNon x))
  rw [e]; exact q
theorem o_listI {d : D} {ds : List D} (e : itemsD d = some ds) (q : Q (.lst ds)) : fList [d] Q := by
  unfold itemsD at e
  split at e <;> first | (cases e; exact q) | cases e
end
end Pu

namespace Pu
open PySem PySem.Spec PyProof.Rows L2
class DTy (α : Type) [DecidableEq α] where
  d : α → D
  py : α → PyData
  h1 : ∀ a, toPy (d a) = some (py a)
  h2 : ∀ a b, PyData.eqv (py a) (py b) = decide (a = b)
  k : Nat
  h3 : ∀ a, (py a).canLay0 = true
  h4 : ∀ a, (py a).depth ≤ k
theorem beq_dec {α : Type} [BEq α] [LawfulBEq α] [DecidableEq α] (a b : α) : (a == b) = decide (a = b) := by
  rw [Bool.eq_iff_iff, beq_iff_eq, decide_eq_true_eq]
instance : DTy Int where
  d := .int
  py := .int
  h1 _ := rfl
  h2 a b := by simp only [PyData.eqv]; exact beq_dec a b
  k := 0
  h3 _ := rfl
  h4 _ := Nat.le_refl _
instance : DTy Bool where
  d := .bl
  py := .bool
  h1 _ := rfl
  h2 a b := by simp only [PyData.eqv]; exact beq_dec a b
  k := 0
  h3 _ := rfl
  h4 _ := Nat.le_refl _
section
variable {α β : Type} [DecidableEq α] [DTy α] [DecidableEq β] [DTy β]
theorem dty_all : ∀ xs : List α, toPyAll (xs.map DTy.d) = some (xs.map DTy.py)
  | [] => by unfold toPyAll; rfl
  | x :: xs => by
    rw [List.map_cons, List.map_cons]
    unfold toPyAll
    rw [DTy.h1 x, dty_all xs]
theorem dty_can : ∀ xs : List α, PyData.canLayAll0 (xs.map DTy.py) = true
  | [] => by rw [List.map_nil, PyData.canLayAll0]
  | x :: xs => by
    rw [List.map_cons, PyData.canLayAll0, DTy.h3 x, dty_can xs]
    rfl
theorem dty_dep : ∀ xs : List α, PyData.depthAll (xs.map DTy.py) ≤ DTy.k α
  | [] => Nat.zero_le _
  | x :: xs => by
    rw [List.map_cons, PyData.depthAll]
    exact Nat.max_le.mpr ⟨DTy.h4 x, dty_dep xs⟩
theorem dty_eqv : ∀ xs ys : List α, PyData.eqvAll (xs.map DTy.py) (ys.map DTy.py) = decide (xs = ys)
  | [], [] => by simp only [List.map_nil, PyData.eqvAll, decide_true]
  | [], _ :: _ => by simp [PyData.eqvAll]
  | _ :: _, [] => by simp [PyData.eqvAll]
  | x :: xs, y :: ys => by
    rw [List.map_cons, List.map_cons, PyData.eqvAll, DTy.h2 x y, dty_eqv xs ys, ← Bool.decide_and]
    exact decide_eq_decide.mpr (by rw [List.cons.injEq])
instance : DTy (List α) where
  d xs := .lst (xs.map DTy.d)
  py xs := .list (xs.map DTy.py)
  h1 xs := by unfold toPy; rw [dty_all]; rfl
  h2 xs ys := by simp only [PyData.eqv]; exact dty_eqv xs ys
  k := DTy.k α + 1
  h3 xs := by simp only [PyData.canLay0]; exact dty_can xs
  h4 xs := by simp only [PyData.depth]; exact Nat.succ_le_succ (dty_dep xs)
structure Tp (α : Type) where
  its : List α
deriving DecidableEq
instance : DTy (Tp α) where
  d t := .tup (t.its.map DTy.d)
  py t := .tuple (t.its.map DTy.py)
  h1 t := by unfold toPy; rw [dty_all]; rfl
  h2 t u := by
    simp only [PyData.eqv]
    rw [dty_eqv]
    exact decide_eq_decide.mpr ⟨fun e => by cases t; cases u; exact congrArg Tp.mk e, fun e => by rw [e]⟩
  k := DTy.k α + 1
  h3 t := by simp only [PyData.canLay0]; exact dty_can t.its
  h4 t := by simp only [PyData.depth]; exact Nat.succ_le_succ (dty_dep t.its)
instance : DTy (α × β) where
  d p := .tup [DTy.d p.1, DTy.d p.2]
  py p := .tuple [DTy.py p.1, DTy.py p.2]
  h1 p := by unfold toPy toPyAll toPyAll toPyAll; simp only [DTy.h1]; rfl
  h2 p q := by
    simp only [PyData.eqv, PyData.eqvAll]
    rw [DTy.h2, DTy.h2, Bool.and_true, ← Bool.decide_and]
    exact decide_eq_decide.mpr ⟨fun e => Prod.ext e.1 e.2, fun e => by rw [e]; exact ⟨rfl, rfl⟩⟩
  k := max (DTy.k α) (DTy.k β) + 1
  h3 p := by simp only [PyData.canLay0, PyData.canLayAll0, DTy.h3, Bool.and_self]
  h4 p := by
    simp only [PyData.depth, PyData.depthAll]
    exact Nat.succ_le_succ (Nat.max_le.mpr ⟨Nat.le_trans (DTy.h4 p.1) (Nat.le_max_left _ _), Nat.max_le.mpr ⟨Nat.le_trans (DTy.h4 p.2) (Nat.le_max_right _ _), Nat.zero_le _⟩⟩)
theorem dty_shaped (a : α) (hk : DTy.k α ≤ 64) : SeqAt.shaped (DTy.py a) = true := by
  unfold SeqAt.shaped
  rw [DTy.h3 a, decide_eq_true (Nat.le_trans (DTy.h4 a) hk)]
  rfl
theorem o_eqT {Q : D → Prop} {a b : α} (hk : DTy.k α ≤ 64) (q : Q (.bl (decide (a = b)))) : fEq (DTy.d a) (DTy.d b) Q :=
  ⟨_, _, DTy.h1 a, DTy.h1 b, dty_shaped a hk, dty_shaped b hk, by rw [DTy.h2]; exact q⟩
end
theorem o_eqB {Q : D → Prop} {a b : Bool} (q : Q (.bl (decide (a = b)))) : fEq (.bl a) (.bl b) Q := o_eqT (α := Bool) (by decide) q
theorem o_eqS {Q : D → Prop} {a b : Str} (ha : PyData.strOk a = true) (hb : PyData.strOk b = true) (q : Q (.bl (decide (a = b)))) : fEq (.str a) (.str b) Q := by
  refine ⟨.str a, .str b, rfl, rfl, ?_, ?_, ?_⟩
  · unfold SeqAt.shaped; rw [PyData.canLay0, ha]; rfl
  · unfold SeqAt.shaped; rw [PyData.canLay0, hb]; rfl
  · have e : PyData.eqv (.str a) (.str b) = decide (a = b) := by simp only [PyData.eqv]; exact beq_dec a b
    rw [e]; exact q
end Pu
set_option Elab.async false
set_option linter.all false
set_option maxRecDepth 100000
set_option maxHeartbeats 2000000
set_option autoImplicit false
namespace Pu
open PySem PySem.Spec PyProof.Rows L2
theorem atI_zero {d : D} {ds : List D} : atI (d :: ds) 0 = some d := by
  unfold atI ixN
  rw [if_pos (by omega), if_pos (by simp only [List.length_cons]; omega)]
  rfl
theorem o_ixL0 {Q : D → Prop} {d : D} {ds : List D} (q : Q d) : fIx (.lst (d :: ds)) (.int 0) Q := o_ixL atI_zero q
end Pu
namespace Pu
theorem e_un {δ : Dl} {f : PUn} {pa : PX} {Q : D → Prop} {Q2 : Exn → Prop} (h : pa δ (fun x => f x Q) Q2) : pUn f pa δ Q Q2 := h
theorem o_neg {Q : D → Prop} {i : Int} (q : Q (.int (-i))) : fNeg (.int i) Q := q
theorem l_itR {QL : List D → Prop} {d : D} {ds : List D} (e : itemsD d = some ds) (h : QL ds) : (match itemsD d with | some ds => QL ds | none => False) := by rw [e]; exact h
end Pu
namespace Pu
open PySem PySem.Spec PyProof.Rows L2
noncomputable def intK (F : Int → Prop) : D → Prop
  | .int j => F j
  | _ => False
theorem k_int {F : Int → Prop} {j : Int} (h : F j) : intK F (.int j) := h
noncomputable def exK {α : Type} (φ : α → D) (d : D) (F : α → Prop) : Prop := ∃ x, d = φ x ∧ F x
theorem k_exI {F : Int → Prop} {j : Int} (h : F j) : exK D.int (.int j) F := ⟨j, rfl, h⟩
section
variable {α : Type} {φ : α → D} {xs : List α} {δ : Dl} {P : PEnds} {i : Nat} {pe pk : PX} {Q : D → Prop} {Q2 : Exn → Prop} {oa : Option Addr}
theorem ixN_nat {n : Nat} {j : Int} (h1 : 0 ≤ j) (h2 : j < n) : ixN n j = some j.toNat := by
  unfold ixN
  rw [if_pos h1, if_pos h2]
theorem atI_map {j : Int} (h1 : 0 ≤ j) (h2 : j < xs.length) : ∃ x, xs[j.toNat]? = some x ∧ atI (xs.map φ) j = some (φ x) := by
  have hl : j.toNat < xs.length := by omega
  refine ⟨xs[j.toNat], List.getElem?_eq_getElem hl, ?_⟩
  unfold atI
  rw [ixN_nat h1 (by rw [List.length_map]; exact h2)]
  show (xs.map φ)[j.toNat]? = _
  rw [List.getElem?_map, List.getElem?_eq_getElem hl]
  rfl
theorem o_ixM {j : Int} (h1 : 0 ≤ j) (h2 : j < xs.length) (h : ∀ x, xs[j.toNat]? = some x → Q (φ x)) : fIx (.lst (xs.map φ)) (.int j) Q := by
  obtain ⟨x, e1, e2⟩ := atI_map (φ := φ) h1 h2
  exact o_ixL e2 (h x e1)
theorem o_ixMT {j : Int} (h1 : 0 ≤ j) (h2 : j < xs.length) (h : ∀ x, xs[j.toNat]? = some x → Q (φ x)) : fIx (.tup (xs.map φ)) (.int j) Q := by
  obtain ⟨x, e1, e2⟩ := atI_map (φ := φ) h1 h2
  exact o_ixT e2 (h x e1)
end
theorem map_erase {α β : Type} {f : α → β} : ∀ (xs : List α) (j : Nat), (xs.eraseIdx j).map f = (xs.map f).eraseIdx j
  | [], _ => rfl
  | _ :: _, 0 => rfl
  | x :: xs, j + 1 => by
    show f x :: (xs.eraseIdx j).map f = f x :: (xs.map f).eraseIdx j
    rw [map_erase xs j]
noncomputable def appK (ds : List D) (F : List D → Prop) : D → Prop := fun d => ds.length < szl ∧ F (ds ++ [d])
noncomputable def insK (ds : List D) (F : List D → Prop) : D → D → Prop := fun k d => match k with
  | .int j => ds.length < szl ∧ 0 ≤ j ∧ j < 2 ^ 63 ∧ F (ds.take j.toNat ++ [d] ++ ds.drop j.toNat)
  | _ => False
noncomputable def popK (ds : List D) (F : List D → Prop) : D → Prop := fun d => match d with
  | .int k => -(2 ^ 63) ≤ k ∧ k < 2 ^ 63 ∧ (match ixN ds.length k with | some j => F (ds.eraseIdx j) | none => False)
  | _ => False
section
variable {α : Type} {φ : α → D} {xs : List α} {ds : List D} {d : D} {F : List D → Prop} {j : Int} {ns : List Int} {x : Int} {y : α}
theorem k_appI (h1 : ns.length < szl) (h : F ((ns ++ [x]).map .int)) : appK (ns.map .int) F (.int x) := ⟨by rw [List.length_map]; exact h1, by rw [List.map_append] at h; exact h⟩
theorem k_app (h1 : ds.length < szl) (h : F (ds ++ [d])) : appK ds F d := ⟨h1, h⟩
theorem k_appM (h1 : xs.length < szl) (h : F ((xs ++ [y]).map φ)) : appK (xs.map φ) F (φ y) := ⟨by rw [List.length_map]; exact h1, by rw [List.map_append] at h; exact h⟩
theorem k_insM (h1 : xs.length < szl) (h2 : 0 ≤ j) (h3 : j < 2 ^ 63) (h : F ((xs.take j.toNat ++ [y] ++ xs.drop j.toNat).map φ)) : insK (xs.map φ) F (.int j) (φ y) := by
  refine ⟨by rw [List.length_map]; exact h1, h2, h3, ?_⟩
  rw [List.map_append, List.map_append, List.map_take, List.map_drop] at h
  exact h
theorem k_insI (h1 : ns.length < szl) (h2 : 0 ≤ j) (h3 : j < 2 ^ 63) (h : F ((ns.take j.toNat ++ [x] ++ ns.drop j.toNat).map .int)) : insK (ns.map .int) F (.int j) (.int x) := k_insM h1 h2 h3 h
theorem k_setM {K : List D → Prop} (h1 : 0 ≤ j) (h2 : j < xs.length) (h : K ((xs.set j.toNat y).map φ)) : ixSet (xs.map φ) (φ y) K (.int j) := by
  refine o_set (n := j.toNat) (ixN_nat h1 (by rw [List.length_map]; exact h2)) ?_
  rw [List.map_set] at h
  exact h
theorem k_setI {K : List D → Prop} (h1 : 0 ≤ j) (h2 : j < ns.length) (h : K ((ns.set j.toNat x).map .int)) : ixSet (ns.map .int) (.int x) K (.int j) := k_setM h1 h2 h
theorem k_popM (h1 : 0 ≤ j) (h2 : j < xs.length) (h3 : xs.length < 2 ^ 62) (h : F ((xs.eraseIdx j.toNat).map φ)) : popK (xs.map φ) F (.int j) := by
  refine ⟨by omega, by omega, ?_⟩
  rw [ixN_nat h1 (by rw [List.length_map]; exact h2)]
  rw [map_erase] at h
  exact h
end
section
variable {δ : Dl} {P : PEnds} {i : Nat} {pe pk : PX} {oa : Option Addr} {ds : List D}
theorem w_appK (e : δ[i]? = some (some (.own oa ds))) (h : pe δ (appK ds fun es => P.nx (δ.set i (some (.own oa es)))) (P.ex δ)) : pApp i pe P δ := w_app e h
theorem w_insK (e : δ[i]? = some (some (.own oa ds))) (h : pk δ (fun k => pe δ (insK ds (fun es => P.nx (δ.set i (some (.own oa es)))) k) (P.ex δ)) (P.ex δ)) : pIns i pk pe P δ := w_ins e h
theorem w_popK (e : δ[i]? = some (some (.own oa ds))) (h : pe δ (popK ds fun es => P.nx (δ.set i (some (.own oa es)))) (P.ex δ)) : pPopAt i pe P δ := by
  unfold pPopAt
  rw [e]
  exact h
end
end Pu
namespace Pu
end Pu
namespace Pu
theorem t_yes {δ : Dl} {QT : Bool → Prop} {Q2 : Exn → Prop} (h : QT true) : pYes δ QT Q2 := h
end Pu
namespace Pu
theorem fnew {ns : List Int} {P : D → Prop} {P2 : Exn → Prop} (h : ns.length ≤ 63) (q : P .pool) : wpNewPool [.script ns] P P2 := ⟨ns, rfl, h, q⟩
end Pu
namespace Pu
theorem o_sortI {ns : List Int} {Q : D → Prop} (h : ∀ ns' : List Int, ns'.Perm ns → ns'.Pairwise (· ≤ ·) → Q (.lst (ns'.map .int))) : fSortI [.lst (ns.map .int)] Q := by
  unfold fSortI
  simp only [intsD_map]
  exact h
theorem sorted_eq {a b : List Int} (p : a.Perm b) (h1 : a.Pairwise (· ≤ ·)) (h2 : b.Pairwise (· ≤ ·)) : a = b := p.eq_of_pairwise (fun _ _ _ _ x y => Int.le_antisymm x y) h1 h2
end Pu
namespace Pu
open PySem PySem.Spec PyProof.Rows L2
theorem e_fldS {i c j : Nat} {δ : Dl} {Q : D → Prop} {Q2 : Exn → Prop} {a : Addr} {ds : List D} {x : D} (e : δ[i]? = some (some (.slf a c ds))) (h2 : ds[j]? = some x) (q : Q x) : pFldS i c j δ Q Q2 := by
  unfold pFldS
  rw [e]
  refine ⟨rfl, ?_⟩
  simp only [h2]
  exact q
theorem snoc_ind {α : Type} {p : List α → Prop} (h0 : p []) (h1 : ∀ xs x, p xs → p (xs ++ [x])) (xs : List α) : p xs := by
  have key : ∀ (n : Nat) (xs : List α), xs.length = n → p xs := by
    intro n
    induction n with
    | zero => intro xs hl; rw [List.eq_nil_of_length_eq_zero hl]; exact h0
    | succ n ih =>
      intro xs hl
      have hne : xs ≠ [] := fun e => by rw [e] at hl; cases hl
      have e := List.dropLast_concat_getLast hne
      rw [← e]
      exact h1 _ _ (ih _ (by rw [List.length_dropLast]; omega))
  exact key _ xs rfl
end Pu
set_option Elab.async false
set_option linter.all false
set_option maxRecDepth 100000
set_option maxHeartbeats 2000000
set_option autoImplicit false
namespace Pu
open PySem PySem.Spec PyProof.Rows L2
noncomputable def intO (F : Option Int → Prop) : D → Prop
  | .int i => F (some i)
  | _ => False
section
variable {α : Type} {φ : α → D} {xs ys : List α} {δ : Dl} {pe : PX} {pl ph : POx} {Q : D → Prop} {QO : Option Int → Prop} {Q2 : Exn → Prop} {a b : Int}
theorem e_sl (h : pe δ (fun x => pl δ (fun lo => ph δ (fun hi => fSl x lo hi Q) Q2) Q2) Q2) : pSl pe pl ph δ Q Q2 := h
theorem e_part (h : pe δ (intO QO) Q2) : pPart pe δ QO Q2 := h
theorem e_no (h : QO none) : pNo δ QO Q2 := h
theorem k_intO (h : QO (some a)) : intO QO (.int a) := h
theorem sIxS (n d : Nat) {a : Int} (h1 : 0 ≤ a) : HT.sIx n d (some a) = min a.toNat n := by
  show (if a < 0 then _ else _) = _
  rw [if_neg (by omega)]
theorem cut_some {ds : List D} (h1 : 0 ≤ a) (h2 : a ≤ ds.length) (h3 : 0 ≤ b) (h4 : b ≤ ds.length) : cutD ds (some a) (some b) = (ds.drop a.toNat).take (b.toNat - a.toNat) := by
  unfold cutD
  rw [sIxS _ _ h1, sIxS _ _ h3, Nat.min_eq_left (by omega), Nat.min_eq_left (by omega)]
theorem cut_from {ds : List D} (h1 : 0 ≤ a) : cutD ds (some a) none = ds.drop a.toNat := by
  unfold cutD
  rw [show HT.sIx ds.length ds.length none = ds.length from rfl]
  rw [sIxS _ _ h1]
  by_cases c : a.toNat ≤ ds.length
  · rw [Nat.min_eq_left c, List.take_of_length_le (by rw [List.length_drop]; omega)]
  · rw [Nat.min_eq_right (by omega), List.drop_eq_nil_of_le (Nat.le_refl _), List.drop_eq_nil_of_le (by omega), List.take_nil]
theorem cut_to {ds : List D} (h3 : 0 ≤ b) : cutD ds none (some b) = ds.take b.toNat := by
  unfold cutD
  rw [show HT.sIx ds.length 0 none = 0 from rfl]
  rw [sIxS _ _ h3, List.drop_zero, Nat.sub_zero]
  by_cases c : b.toNat ≤ ds.length
  · rw [Nat.min_eq_left c]
  · rw [Nat.min_eq_right (by omega), List.take_of_length_le (by omega), List.take_of_length_le (by omega)]
theorem o_slM (h1 : 0 ≤ a) (h2 : a ≤ xs.length) (h3 : 0 ≤ b) (h4 : b ≤ xs.length) (q : Q (.lst (((xs.drop a.toNat).take (b.toNat - a.toNat)).map φ))) : fSl (.lst (xs.map φ)) (some a) (some b) Q := by
  show Q (.lst (cutD _ _ _))
  rw [cut_some h1 (by rw [List.length_map]; exact h2) h3 (by rw [List.length_map]; exact h4), ← List.map_drop, ← List.map_take]
  exact q
theorem o_slF (h1 : 0 ≤ a) (q : Q (.lst ((xs.drop a.toNat).map φ))) : fSl (.lst (xs.map φ)) (some a) none Q := by
  show Q (.lst (cutD _ _ _))
  rw [cut_from h1, ← List.map_drop]
  exact q
theorem o_slT (h3 : 0 ≤ b) (q : Q (.lst ((xs.take b.toNat).map φ))) : fSl (.lst (xs.map φ)) none (some b) Q := by
  show Q (.lst (cutD _ _ _))
  rw [cut_to h3, ← List.map_take]
  exact q
theorem o_addL (h : xs.length + ys.length ≤ szl) (q : Q (.lst ((xs ++ ys).map φ))) : fAdd (.lst (xs.map φ)) (.lst (ys.map φ)) Q := by
  refine ⟨by rw [List.length_map, List.length_map]; exact h, ?_⟩
  rw [← List.map_append]
  exact q
end
end Pu
namespace Pu
open PySem PySem.Spec PyProof.Rows L2
structure OkStr where
  s : Str
  ok : PyData.strOk s = true
instance : DecidableEq OkStr := fun a b => decidable_of_iff (a.s = b.s) ⟨fun h => by cases a; cases b; cases h; rfl, fun h => by rw [h]⟩
instance : DTy OkStr where
  d x := .str x.s
  py x := .str x.s
  h1 _ := rfl
  h2 a b := by
    simp only [PyData.eqv]
    rw [beq_dec]
    exact decide_eq_decide.mpr ⟨fun h => by cases a; cases b; cases h; rfl, fun h => by rw [h]⟩
  k := 0
  h3 a := by simp only [PyData.canLay0]; exact a.ok
  h4 _ := Nat.le_refl _
end Pu
namespace Pu
open PySem PySem.Spec PyProof.Rows L2
noncomputable def addK (c : Nat) (psp : PSp) (Q : D → Prop) (Q2 : Exn → Prop) (x y : D) : Prop := match x, y with
  | .obj c1 d1, .obj c2 d2 => c1 = c ∧ c2 = c ∧ psp [.obj c1 d1, .obj c2 d2] Q Q2
  | _, _ => False
end Pu
namespace Pu
open PySem PySem.Spec PyProof.Rows L2
theorem insCount {ns : List Int} {x : Int} (j : Nat) : ns.count 1 ≤ (ns.take j ++ [x] ++ ns.drop j).count 1 := by
  rw [List.count_append, List.count_append]
  have e : ns.count 1 = (ns.take j).count 1 + (ns.drop j).count 1 := by rw [← List.count_append, List.take_append_drop]
  omega
end Pu
namespace Pu
open PySem PySem.Spec PyProof.Rows L2
theorem k_popMK {α : Type} {φ : α → D} {xs : List α} {F : D → List D → Prop} {j : Int} (h1 : 0 ≤ j) (h2 : j < xs.length) (h3 : xs.length < 2 ^ 62) (h : ∀ y, xs[j.toNat]? = some y → F (φ y) ((xs.eraseIdx j.toNat).map φ)) : popMK (xs.map φ) F (.int j) := by
  have hj : j.toNat < xs.length := by omega
  refine ⟨by omega, by omega, ?_⟩
  rw [ixN_nat h1 (by rw [List.length_map]; exact h2)]
  simp only
  rw [List.getElem?_map, List.getElem?_eq_getElem hj]
  have := h _ (List.getElem?_eq_getElem hj)
  rw [map_erase] at this
  exact this
end Pu
namespace Pu
end Pu
set_option Elab.async false
set_option linter.all false
set_option maxRecDepth 100000
set_option maxHeartbeats 1000000
set_option autoImplicit false
namespace Pu
open PySem PySem.Spec PyProof.Rows L2
section
variable {C : Ctx} {G : Gp} {H H0 : Hp} {σ : L2.St} {δ : Dl}
end
noncomputable def pFzX (i : Nat) (pe : PX) : PX := fun δ P P2 => match δ[i]? with
  | some (some (.own _ ds)) => pe (δ.set i (some (.d (.lst ds)))) (fun d => noL d = true ∧ P d) (fun e => noLL e.ds = true ∧ P2 e)
  | some (some (.d _)) => pe δ P P2
  | _ => False
noncomputable def pFzT (i : Nat) (pt : PTx) : PTx := fun δ P P2 => match δ[i]? with
  | some (some (.own _ ds)) => pt (δ.set i (some (.d (.lst ds)))) P (fun e => noLL e.ds = true ∧ P2 e)
  | some (some (.d _)) => pt δ P P2
  | _ => False
noncomputable def pFzO (i : Nat) (pe : PX) : PX := fun δ P P2 => match δ[i]? with
  | some (some (.own _ ds)) => pe (δ.set i (some (.d (.lst ds)))) (fun d => (match d with | .lst es => noLL es = true | _ => False) ∧ P d) (fun e => noLL e.ds = true ∧ P2 e)
  | some (some (.d _)) => pe δ P P2
  | _ => False
section
variable {X : Cx} {E : L2.St → XK} {e : Expr} {te : TE} {pe : PX}
end
end Pu
set_option Elab.async false
set_option linter.all false
set_option maxRecDepth 100000
set_option maxHeartbeats 2000000
set_option autoImplicit false
namespace Pu
open PySem PySem.Spec PyProof.Rows L2
section
variable {α β γ ε ζ η : Type}
noncomputable abbrev eD (d : D) : D := d
noncomputable abbrev eN (_ : Unit) : D := .non
noncomputable abbrev eL (f : α → D) (xs : List α) : D := .lst (List.map f xs)
noncomputable abbrev eT (f : α → D) (xs : List α) : D := .tup (List.map f xs)
noncomputable abbrev eP0 (_ : Unit) : D := .tup []
noncomputable abbrev eR0 (_ : Unit) : D := .lst []
noncomputable abbrev eP1 (f : α → D) (p : α) : D := .tup [f p]
noncomputable abbrev eP2 (f : α → D) (g : β → D) (p : α × β) : D := .tup [f p.1, g p.2]
noncomputable abbrev eP3 (f : α → D) (g : β → D) (h : γ → D) (p : α × β × γ) : D := .tup [f p.1, g p.2.1, h p.2.2]
noncomputable abbrev eP4 (f : α → D) (g : β → D) (h : γ → D) (i : ε → D) (p : α × β × γ × ε) : D := .tup [f p.1, g p.2.1, h p.2.2.1, i p.2.2.2]
noncomputable abbrev eP5 (f : α → D) (g : β → D) (h : γ → D) (i : ε → D) (j : ζ → D) (p : α × β × γ × ε × ζ) : D := .tup [f p.1, g p.2.1, h p.2.2.1, i p.2.2.2.1, j p.2.2.2.2]
noncomputable abbrev eR1 (f : α → D) (p : α) : D := .lst [f p]
noncomputable abbrev eR2 (f : α → D) (g : β → D) (p : α × β) : D := .lst [f p.1, g p.2]
noncomputable abbrev eR3 (f : α → D) (g : β → D) (h : γ → D) (p : α × β × γ) : D := .lst [f p.1, g p.2.1, h p.2.2]
noncomputable abbrev eR4 (f : α → D) (g : β → D) (h : γ → D) (i : ε → D) (p : α × β × γ × ε) : D := .lst [f p.1, g p.2.1, h p.2.2.1, i p.2.2.2]
noncomputable abbrev eR5 (f : α → D) (g : β → D) (h : γ → D) (i : ε → D) (j : ζ → D) (p : α × β × γ × ε × ζ) : D := .lst [f p.1, g p.2.1, h p.2.2.1, i p.2.2.2.1, j p.2.2.2.2]
section
variable {θ ι κ μ : Type}
noncomputable abbrev eP6 (f : α → D) (g : β → D) (h : γ → D) (i : ε → D) (j : ζ → D) (k : η → D) (p : α × β × γ × ε × ζ × η) : D := .tup [f p.1, g p.2.1, h p.2.2.1, i p.2.2.2.1, j p.2.2.2.2.1, k p.2.2.2.2.2]
noncomputable abbrev eP7 (f : α → D) (g : β → D) (h : γ → D) (i : ε → D) (j : ζ → D) (k : η → D) (l : θ → D) (p : α × β × γ × ε × ζ × η × θ) : D := .tup [f p.1, g p.2.1, h p.2.2.1, i p.2.2.2.1, j p.2.2.2.2.1, k p.2.2.2.2.2.1, l p.2.2.2.2.2.2]
noncomputable abbrev eP8 (f : α → D) (g : β → D) (h : γ → D) (i : ε → D) (j : ζ → D) (k : η → D) (l : θ → D) (m : ι → D) (p : α × β × γ × ε × ζ × η × θ × ι) : D := .tup [f p.1, g p.2.1, h p.2.2.1, i p.2.2.2.1, j p.2.2.2.2.1, k p.2.2.2.2.2.1, l p.2.2.2.2.2.2.1, m p.2.2.2.2.2.2.2]
noncomputable abbrev eP9 (f : α → D) (g : β → D) (h : γ → D) (i : ε → D) (j : ζ → D) (k : η → D) (l : θ → D) (m : ι → D) (n : κ → D) (p : α × β × γ × ε × ζ × η × θ × ι × κ) : D := .tup [f p.1, g p.2.1, h p.2.2.1, i p.2.2.2.1, j p.2.2.2.2.1, k p.2.2.2.2.2.1, l p.2.2.2.2.2.2.1, m p.2.2.2.2.2.2.2.1, n p.2.2.2.2.2.2.2.2]
noncomputable abbrev eP10 (f : α → D) (g : β → D) (h : γ → D) (i : ε → D) (j : ζ → D) (k : η → D) (l : θ → D) (m : ι → D) (n : κ → D) (o : μ → D) (p : α × β × γ × ε × ζ × η × θ × ι × κ × μ) : D := .tup [f p.1, g p.2.1, h p.2.2.1, i p.2.2.2.1, j p.2.2.2.2.1, k p.2.2.2.2.2.1, l p.2.2.2.2.2.2.1, m p.2.2.2.2.2.2.2.1, n p.2.2.2.2.2.2.2.2.1, o p.2.2.2.2.2.2.2.2.2]
end
noncomputable def eO (f : α → D) : Option α → D
  | none => .non
  | some x => f x
end
noncomputable abbrev Sg := Int × List Int
noncomputable abbrev eSg : Sg → D := eP2 D.int (eT D.int)
structure Dp where
  p : Int
  q : Int
  f : List Int
deriving Inhabited
structure Bk where
  s : List Sg
  n : Int
deriving Inhabited
noncomputable abbrev eDp (d : Dp) : D := .obj 0 [.int d.p, .int d.q, .tup (List.map D.int d.f)]
noncomputable abbrev eBk (b : Bk) : D := .obj 1 [.tup (List.map eSg b.s), .int b.n]
structure Af where
  n : Int
  ps : List Int
  ls : List Int
  xs : List Int
  dep : Dp
deriving Inhabited
noncomputable abbrev eAf (a : Af) : D := .obj 2 [.int a.n, .tup (List.map D.int a.ps), .tup (List.map D.int a.ls), .tup (List.map D.int a.xs), eDp a.dep]
noncomputable def bnd {α : Type} (a : α) (k : α → Prop) : Prop := k a
noncomputable def jn {τ : Type} (F : τ → Prop) (K : τ) : Prop := F K
noncomputable def ifP (p : Prop) (A B : Prop) : Prop := (p → A) ∧ (¬ p → B)
noncomputable def forK {α τ : Type} : List α → (α → τ → τ) → τ → τ
  | [], _, K => K
  | x :: xs, b, K => b x (forK xs b K)
noncomputable def forB {α τ : Type} : List α → (α → τ → τ → τ) → τ → τ
  | [], _, K => K
  | x :: xs, b, K => b x (forB xs b K) K
noncomputable def lcK {α β : Type} (b : α → (Option β → Prop) → Prop) (K : List β → Prop) : List α → List β → Prop
  | [], es => K es
  | x :: xs, es => b x fun o => match o with
    | some y => lcK b K xs (es ++ [y])
    | none => lcK b K xs es
noncomputable def gi {α : Type} [Inhabited α] (xs : List α) (i : Int) : α := xs.getD i.toNat default
noncomputable def ixOk {α : Type} (xs : List α) (i : Int) : Prop := 0 ≤ i ∧ i < xs.length
noncomputable def lastD {α : Type} [Inhabited α] (xs : List α) : α := xs.getLastD default
noncomputable def st {α : Type} (xs : List α) (i : Int) (y : α) : List α := xs.set i.toNat y
noncomputable def ins {α : Type} (xs : List α) (i : Int) (y : α) : List α := xs.take i.toNat ++ [y] ++ xs.drop i.toNat
noncomputable def era {α : Type} (xs : List α) (i : Int) : List α := xs.eraseIdx i.toNat
noncomputable def rg (a b : Int) : List Int := (List.range (b - a).toNat).map fun (i : Nat) => a + (i : Int)
noncomputable def en {α : Type} (k : Int) (xs : List α) : List (Int × α) := xs.zipIdx.map fun p => (k + (p.2 : Int), p.1)
noncomputable def ab (i : Int) : Int := if i < 0 then -i else i
noncomputable def mn (i j : Int) : Int := if j < i then j else i
noncomputable def mx (i j : Int) : Int := if j > i then j else i
noncomputable def ib (b : Bool) : Int := if b = true then 1 else 0
noncomputable def mulT (x y : Int) : Prop := (-(2 ^ 64) < x ∧ x < 2 ^ 64) ∨ (-(2 ^ 64) < y ∧ y < 2 ^ 64)
noncomputable def divT (y : Int) : Prop := 0 < y ∧ y < 2 ^ 200
theorem gi_get {α : Type} [Inhabited α] {xs : List α} {i : Int} (h : ixOk xs i) : xs[i.toNat]? = some (gi xs i) := by
  have h1 := h.1
  have h2 := h.2
  unfold gi
  rw [List.getD_eq_getElem?_getD, List.getElem?_eq_getElem (by omega)]
  rfl
theorem gi_nat {α : Type} [Inhabited α] {xs : List α} {i : Nat} (h : i < xs.length) : gi xs (i : Int) = xs[i] := by
  unfold gi
  rw [List.getD_eq_getElem?_getD, Int.toNat_natCast, List.getElem?_eq_getElem h]
  rfl
theorem rg_D (a b : Int) : rangeD a (b - a).toNat = List.map D.int (rg a b) := by
  unfold rangeD rg
  rw [List.map_map]
  rfl
theorem rg_mem {a b x : Int} : x ∈ rg a b ↔ a ≤ x ∧ x < b := by
  unfold rg
  rw [List.mem_map]
  constructor
  · rintro ⟨i, hi, rfl⟩
    have := List.mem_range.mp hi
    omega
  · rintro ⟨h1, h2⟩
    exact ⟨(x - a).toNat, List.mem_range.mpr (by omega), by omega⟩
theorem rg_len {a b : Int} : (rg a b).length = (b - a).toNat := by unfold rg; simp
theorem en_D {α : Type} (f : α → D) (k : Int) (xs : List α) : enumD k (List.map f xs) = List.map (eP2 D.int f) (en k xs) := by
  rw [enumD_map]
  unfold en
  rw [List.map_map]
  rfl
end Pu
set_option Elab.async false
set_option linter.all false
set_option maxRecDepth 100000
set_option maxHeartbeats 2000000
set_option autoImplicit false
namespace Pu
open PySem PySem.Spec PyProof.Rows L2
noncomputable abbrev TT (pt : PTx) (δ : Dl) (Q2 : Exn → Prop) (p : Prop) : Prop := ∀ QT : Bool → Prop, (∀ b : Bool, (b = true ↔ p) → QT b) → pt δ QT Q2
section
variable {δ : Dl} {P : PEnds} {Q2 : Exn → Prop} {p q : Prop} {pt pu : PTx} {pe pa pb pc : PX} {a b : PSx}
theorem w_ifT (ht : TT pt δ (P.ex δ) p) (h1 : p → a P δ) (h2 : ¬ p → b P δ) : pIf pt a b P δ :=
  ht _ fun k hk => by
    cases k
    · rw [if_neg (by decide)]
      exact h2 fun z => by have := hk.mpr z; cases this
    · rw [if_pos rfl]
      exact h1 (hk.mp rfl)
theorem w_ifB {k : Bool} {A B : Prop} (hk : k = true ↔ p) (h1 : p → A) (h2 : ¬ p → B) : if k = true then A else B := by
  cases k
  · rw [if_neg (by decide)]
    exact h2 fun z => by have := hk.mpr z; cases this
  · rw [if_pos rfl]
    exact h1 (hk.mp rfl)
theorem dec_iff {p : Prop} [Decidable p] : decide p = true ↔ p := ⟨of_decide_eq_true, decide_eq_true⟩
theorem tt_cmp [Decidable p] (h : ∀ Q : D → Prop, Q (.bl (decide p)) → pe δ Q Q2) : TT (pTst pe) δ Q2 p := fun _ hq => h _ (hq _ dec_iff)
theorem tt_truB {k : Bool} (h : ∀ Q : D → Prop, Q (.bl k) → pe δ Q Q2) : TT (pTru pe) δ Q2 (k = true) := fun _ hq => h _ (hq _ Iff.rfl)
theorem tt_truL {α : Type} {f : α → D} {xs : List α} (h : ∀ Q : D → Prop, Q (.lst (List.map f xs)) → pe δ Q Q2) : TT (pTru pe) δ Q2 (xs ≠ []) := fun _ hq => h _ (hq _ (by cases xs <;> simp))
theorem tt_and (ha : TT pt δ Q2 p) (hb : p → TT pu δ Q2 q) : TT (pAndT pt pu) δ Q2 (p ∧ q) := fun QT hq => ha _ fun k hk => by
  cases k
  · rw [if_neg (by decide)]
    exact hq _ ⟨fun z => (by cases z), fun z => hk.mpr z.1⟩
  · rw [if_pos rfl]
    exact hb (hk.mp rfl) _ fun k2 h2 => hq _ ⟨fun z => ⟨hk.mp rfl, h2.mp z⟩, fun z => h2.mpr z.2⟩
theorem tt_or (ha : TT pt δ Q2 p) (hb : ¬ p → TT pu δ Q2 q) : TT (pOrT pt pu) δ Q2 (p ∨ q) := fun QT hq => ha _ fun k hk => by
  cases k
  · rw [if_neg (by decide)]
    have hn : ¬ p := fun z => by have := hk.mpr z; cases this
    exact hb hn _ fun k2 h2 => hq _ ⟨fun z => .inr (h2.mp z), fun z => h2.mpr (z.resolve_left hn)⟩
  · rw [if_pos rfl]
    exact hq _ ⟨fun _ => .inl (hk.mp rfl), fun _ => rfl⟩
theorem tt_not (ha : TT pt δ Q2 p) : TT (pNotT pt) δ Q2 (¬ p) := fun QT hq => ha _ fun k hk => hq _ (by
  cases k
  · exact ⟨fun _ z => (by have := hk.mpr z; cases this), fun _ => rfl⟩
  · exact ⟨fun z => (by cases z), fun z => absurd (hk.mp rfl) z⟩)
theorem tt_iff {p' : Prop} (ha : TT pt δ Q2 p) (e : p ↔ p') : TT pt δ Q2 p' := fun QT hq => ha _ fun k hk => hq k (hk.trans e)
theorem e_chainT {f f' : POp} {dx dy dz : D} {p p' : Prop} [Decidable p] [Decidable p'] (ha : ∀ Q : D → Prop, Q dx → pa δ Q Q2) (hb : ∀ Q : D → Prop, Q dy → pb δ Q Q2) (hc : p → ∀ Q : D → Prop, Q dz → pc δ Q Q2)
    (hf : ∀ Q : D → Prop, Q (.bl (decide p)) → f dx dy Q) (hf' : ∀ Q : D → Prop, Q (.bl (decide p')) → f' dy dz Q) {Q : D → Prop} (h : Q (.bl (decide (p ∧ p')))) : pChain f f' pa pb pc δ Q Q2 := by
  refine ha _ (hb _ (hf _ ?_))
  by_cases hp : p
  · rw [decide_eq_true hp]
    show if true = true then _ else _
    rw [if_pos rfl]
    refine hc hp _ (hf' _ ?_)
    have e : decide (p ∧ p') = decide p' := decide_eq_decide.mpr ⟨fun z => z.2, fun z => ⟨hp, z⟩⟩
    rw [e] at h
    exact h
  · rw [decide_eq_false hp]
    show if false = true then _ else _
    rw [if_neg (by decide)]
    rw [decide_eq_false (fun z => hp z.1)] at h
    exact h
theorem e_ifT {p : Prop} [Decidable p] {α : Type} {f : α → D} {x y : α} {Q : D → Prop} (ht : TT pt δ Q2 p) (ha : p → ∀ Q : D → Prop, Q (f x) → pa δ Q Q2) (hb : ¬ p → ∀ Q : D → Prop, Q (f y) → pb δ Q Q2) (h : Q (f (if p then x else y))) : pIfE pt pa pb δ Q Q2 :=
  ht _ fun k hk => by
    cases k
    · rw [if_neg (by decide)]
      have hn : ¬ p := fun z => by have := hk.mpr z; cases this
      rw [if_neg hn] at h
      exact hb hn _ h
    · rw [if_pos rfl]
      rw [if_pos (hk.mp rfl)] at h
      exact ha (hk.mp rfl) _ h
end
section
variable {α β : Type} [Inhabited α] {f : α → D} {xs ys : List α} {i a b : Int} {Q : D → Prop} {d : D}
theorem y_ixL (c : ixOk xs i) (h : Q (f (gi xs i))) : fIx (.lst (List.map f xs)) (.int i) Q := o_ixM c.1 c.2 fun x hx => by
  rw [gi_get c] at hx
  cases hx
  exact h
theorem y_ixT (c : ixOk xs i) (h : Q (f (gi xs i))) : fIx (.tup (List.map f xs)) (.int i) Q := o_ixMT c.1 c.2 fun x hx => by
  rw [gi_get c] at hx
  cases hx
  exact h
theorem y_ixV (c : ixOk xs i) (h : Q (f (gi xs i))) : fIx (.vw (List.map f xs)) (.int i) Q := by
  have := y_ixL (f := f) c h
  exact this
theorem y_ixS (hd : itemsD d = some (List.map f xs)) (c : ixOk xs i) (h : Q (f (gi xs i))) : fIx d (.int i) Q := by
  unfold itemsD at hd
  split at hd
  · cases hd; exact y_ixL c h
  · cases hd; exact y_ixV c h
  · cases hd; exact y_ixT c h
  · cases hd
theorem y_lenL (h : Q (.int xs.length)) : fLen [.lst (List.map f xs)] Q := o_lenL (by rw [List.length_map]; exact h)
theorem y_lenT (h : Q (.int xs.length)) : fLen [.tup (List.map f xs)] Q := o_lenT (by rw [List.length_map]; exact h)
theorem y_lenS (hd : itemsD d = some (List.map f xs)) (h : Q (.int xs.length)) : fLen [d] Q := o_lenI hd (by rw [List.length_map]; exact h)
theorem y_list (hd : itemsD d = some (List.map f xs)) (h : Q (.lst (List.map f xs))) : fList [d] Q := o_listI hd h
theorem y_tuple (hd : itemsD d = some (List.map f xs)) (h : Q (.tup (List.map f xs))) : fTuple [d] Q := o_tupI hd h
theorem y_sum {ns : List Int} (hd : itemsD d = some (List.map D.int ns)) (h : Q (.int ns.sum)) : fSumA [d] Q := o_sumI hd h
noncomputable def maxL (ns : List Int) : Int := ns.foldl (fun a b => if b > a then b else a) (ns.headD 0)
noncomputable def minL (ns : List Int) : Int := ns.foldl (fun a b => if b < a then b else a) (ns.headD 0)
theorem y_addL (c : xs.length + ys.length ≤ szl) (h : Q (.lst (List.map f (xs ++ ys)))) : fAdd (.lst (List.map f xs)) (.lst (List.map f ys)) Q := o_addL c h
theorem y_rep {x : α} {j : Int} (c : -(2 ^ 63) ≤ j ∧ j ≤ 16777216) (h : Q (.lst (List.map f (List.replicate j.toNat x)))) : fRep (.lst (List.map f [x])) (.int j) Q := by
  have hz : szl = 16777216 := rfl
  refine ⟨c.1, by omega, by simp only [List.length_map, List.length_cons, List.length_nil]; omega, ?_⟩
  have e : (List.replicate j.toNat (List.map f [x])).flatten = List.map f (List.replicate j.toNat x) := by
    induction j.toNat with
    | zero => rfl
    | succ n ih => rw [List.replicate_succ, List.flatten_cons, ih]; rfl
  rw [e]
  exact h
theorem y_sort {ns : List Int} (h : ∀ ns' : List Int, ns'.Perm ns → ns'.Pairwise (· ≤ ·) → Q (.lst (List.map D.int ns'))) : fSortI [.lst (List.map D.int ns)] Q := o_sortI h
noncomputable def slF (xs : List α) (a : Int) : List α := xs.drop a.toNat
noncomputable def slT (xs : List α) (b : Int) : List α := xs.take b.toNat
noncomputable def slM (xs : List α) (a b : Int) : List α := (xs.drop a.toNat).take (b.toNat - a.toNat)
theorem y_slF (c : 0 ≤ a) (h : Q (.lst (List.map f (slF xs a)))) : fSl (.lst (List.map f xs)) (some a) none Q := o_slF c h
theorem y_slT (c : 0 ≤ b) (h : Q (.lst (List.map f (slT xs b)))) : fSl (.lst (List.map f xs)) none (some b) Q := o_slT c h
theorem y_slM (c : 0 ≤ a ∧ a ≤ xs.length ∧ 0 ≤ b ∧ b ≤ xs.length) (h : Q (.lst (List.map f (slM xs a b)))) : fSl (.lst (List.map f xs)) (some a) (some b) Q := o_slM c.1 c.2.1 c.2.2.1 c.2.2.2 h
theorem y_revL {δ : Dl} {pe : PX} {Q2 : Exn → Prop} (he : ∀ Q : D → Prop, Q (.lst (List.map f xs)) → pe δ Q Q2) (h : Q (.lst (List.map f xs.reverse))) : pRevL pe δ Q Q2 := he _ (by
  show Q (.lst (List.map f xs).reverse)
  rw [← List.map_reverse]
  exact h)
variable {x y : Int} {ns : List Int}
theorem y_mul (c : mulT x y) (h : Q (.int (x * y))) : fMul (.int x) (.int y) Q := o_mul c h
theorem y_div (c : divT y) (h : Q (.int (x / y))) : fDiv (.int x) (.int y) Q := o_div c.1 c.2 h
theorem y_mod (c : 0 < y) (h : Q (.int (x % y))) : fMod (.int x) (.int y) Q := o_mod c h
theorem y_min (h : Q (.int (mn x y))) : fMin2 [.int x, .int y] Q := h
theorem y_max (h : Q (.int (mx x y))) : fMax2 [.int x, .int y] Q := h
end
end Pu
set_option Elab.async false
set_option linter.all false
set_option maxRecDepth 100000
set_option maxHeartbeats 2000000
set_option autoImplicit false
namespace Pu
open PySem PySem.Spec PyProof.Rows L2
section
variable {τ α β : Type} {a b : PSx} {P : PEnds} {δ : Dl}
theorem w_seqJ {F : τ → Prop} {K : τ} (Rel : τ → (Dl → Prop) → Prop) (h : jn F K) (hr : Rel K (b P)) (hf : ∀ (k : τ) (N : Dl → Prop), Rel k N → F k → a { P with nx := N } δ) : pSeq a b P δ := hf K (b P) hr h
theorem w_forK {pg : PG'} {pb : PSx} (f : α → D) {xs : List α} {body : α → τ → τ} {K : τ} (Rel : τ → (Dl → Prop) → Prop) (hend : Rel K P.nx)
    (hb : ∀ (x : α) (k : τ) (N : Dl → Prop), Rel k N → Rel (body x k) (fun δ => pg (f x) δ fun δ' => pb { P with nx := N, ct := N, bk := P.nx } δ')) : Rel (forK xs body K) (fun δ => pForL pg pb P (List.map f xs) δ) := by
  induction xs with
  | nil => exact hend
  | cons x xs ih => exact hb x _ _ ih
theorem forK_ind {xs : List α} {body : α → τ → τ} {K : τ} (J : List α → τ → Prop) (hend : J xs K) (hb : ∀ (pre : List α) (x : α) (post : List α) (k : τ), xs = pre ++ x :: post → J (pre ++ [x]) k → J pre (body x k)) : J [] (forK xs body K) := by
  have key : ∀ (post pre : List α), xs = pre ++ post → J pre (forK post body K) := by
    intro post
    induction post with
    | nil =>
      intro pre e
      rw [List.append_nil] at e
      rw [← e]
      exact hend
    | cons x post ih =>
      intro pre e
      exact hb pre x post _ e (ih (pre ++ [x]) (by rw [e, List.append_assoc]; rfl))
  exact key xs [] rfl
theorem lcK_ind {body : α → (Option β → Prop) → Prop} {K : List β → Prop} {xs : List α} (I : List α → List β → Prop) (h0 : I [] []) (hend : ∀ es, I xs es → K es)
    (hb : ∀ (pre : List α) (x : α) (post : List α) (es : List β) (k : Option β → Prop), xs = pre ++ x :: post → I pre es → (∀ y, I (pre ++ [x]) (es ++ [y]) → k (some y)) → (I (pre ++ [x]) es → k none) → body x k) : lcK body K xs [] := by
  have key : ∀ (post pre : List α) (es : List β), xs = pre ++ post → I pre es → lcK body K post es := by
    intro post
    induction post with
    | nil =>
      intro pre es e hI
      rw [List.append_nil] at e
      subst e
      exact hend es hI
    | cons x post ih =>
      intro pre es e hI
      unfold lcK
      have e2 : xs = (pre ++ [x]) ++ post := by rw [e, List.append_assoc]; rfl
      exact hb pre x post es _ e hI (fun y hy => ih _ _ e2 hy) (fun hy => ih _ _ e2 hy)
  exact key xs [] [] rfl h0
variable {f : α → D} {g : β → D} {xs : List α} {pi : PLx} {pg : PG'} {pt : PTx} {pe : PX} {δw : Dl} {Q : D → Prop} {Q2 : Exn → Prop} {vs : List Nat}
theorem y_lcM (e : α → β) (hl : xs.length ≤ szl) (he : ∀ x ∈ xs, ∀ Q : D → Prop, Q (g (e x)) → pg (f x) δw fun δ' => pe δ' Q fun _ => False) (h : Q (.lst (List.map g (List.map e xs)))) : pLcL pg pYes pe δw Q (List.map f xs) [] := by
  refine w_lcM f xs (fun x => g (e x)) rfl hl (fun x hx K hK => he x hx K hK) ?_
  rw [List.map_map] at h
  exact h
theorem fm_filter {p : α → Bool} {h : α → D} : ∀ xs : List α, (xs.filterMap fun x => if p x = true then some (h x) else none) = (xs.filter p).map h
  | [] => rfl
  | x :: xs => by
    rw [List.filterMap_cons]
    by_cases z : p x = true
    · rw [if_pos z, List.filter_cons_of_pos z, List.map_cons, fm_filter xs]
    · rw [if_neg z, List.filter_cons_of_neg z]
      exact fm_filter xs
theorem y_lcT (p : α → Prop) [DecidablePred p] (e : α → β) (hl : xs.length ≤ szl)
    (he : ∀ x ∈ xs, ∀ (A : Prop) (Q : D → Prop), (p x → Q (g (e x))) → (¬ p x → A) → pg (f x) δw fun δ' => pt δ' (fun b => if b = true then pe δ' Q (fun _ => False) else A) fun _ => False)
    (h : Q (.lst (List.map g (List.map e (xs.filter fun x => decide (p x)))))) : pLcL pg pt pe δw Q (List.map f xs) [] := by
  refine w_lcT f xs (fun x => if decide (p x) = true then some (g (e x)) else none) rfl hl (fun x hx K hK => ?_) ?_
  · refine he x hx (K none) (fun y => K (some y)) (fun hp => ?_) (fun hp => ?_)
    · rw [if_pos (decide_eq_true hp)] at hK
      exact hK
    · rw [if_neg (by rw [decide_eq_false hp]; decide)] at hK
      exact hK
  · rw [fm_filter (p := fun x => decide (p x)) (h := fun x => g (e x))]
    rw [List.map_map] at h
    exact h
theorem y_lcF (p : α → Prop) [DecidablePred p] (hl : xs.length ≤ szl)
    (he : ∀ x ∈ xs, ∀ (A : Prop) (Q : D → Prop), (p x → Q (f x)) → (¬ p x → A) → pg (f x) δw fun δ' => pt δ' (fun b => if b = true then pe δ' Q (fun _ => False) else A) fun _ => False)
    (h : Q (.lst (List.map f (xs.filter fun x => decide (p x))))) : pLcL pg pt pe δw Q (List.map f xs) [] := by
  refine y_lcT (g := f) p id hl he ?_
  rw [List.map_id]
  exact h
theorem y_lcK {body : α → (Option β → Prop) → Prop} {K : List β → Prop} (hl : xs.length ≤ szl) (h : lcK body K xs []) (hk : ∀ es, K es → Q (.lst (List.map g es)))
    (hb : ∀ (x : α) (k : Option β → Prop) (A : Prop) (Qe : D → Prop), (∀ y, k (some y) → Qe (g y)) → (k none → A) → body x k → pg (f x) δw fun δ' => pt δ' (fun b => if b = true then pe δ' Qe (fun _ => False) else A) fun _ => False) : pLcL pg pt pe δw Q (List.map f xs) [] := by
  have key : ∀ (xs : List α) (es : List β), xs.length + es.length ≤ szl → lcK body K xs es → pLcL pg pt pe δw Q (List.map f xs) (List.map g es) := by
    intro xs
    induction xs with
    | nil => intro es _ h; exact hk es h
    | cons x xs ih =>
      intro es hl h
      rw [List.length_cons] at hl
      unfold lcK at h
      show pg (f x) δw fun δ' => pt δ' (fun b => if b = true then pe δ' (fun y => (List.map g es).length < szl ∧ pLcL pg pt pe δw Q (List.map f xs) (List.map g es ++ [y])) (fun _ => False) else pLcL pg pt pe δw Q (List.map f xs) (List.map g es)) fun _ => False
      refine hb x _ _ (fun y => (List.map g es).length < szl ∧ pLcL pg pt pe δw Q (List.map f xs) (List.map g es ++ [y])) (fun y hy => ?_) (fun hn => ?_) h
      · refine ⟨by rw [List.length_map]; omega, ?_⟩
        have := ih (es ++ [y]) (by rw [List.length_append, List.length_singleton]; omega) hy
        rw [List.map_append] at this
        exact this
      · exact ih es (by omega) hn
  exact key xs [] (by simpa using hl) h
end
section
variable {δ : Dl} {pe pf pg : PX} {QL : List D → Prop} {Q2 : Exn → Prop} {α β γ : Type} {f : α → D} {g : β → D} {h' : γ → D} {xs : List α} {ys : List β} {zs : List γ} {d d2 d3 : D} {i j : Int}
theorem y_rg1 (he : ∀ Q : D → Prop, Q (.int j) → pe δ Q Q2) (c : b62 j) (h : QL (List.map D.int (rg 0 j))) : pRange1 pe δ QL Q2 := he _ ⟨c, by
  rw [← rg_D, Int.sub_zero] at h
  exact h⟩
theorem y_rg2 (he : ∀ Q : D → Prop, Q (.int i) → pe δ Q Q2) (hf : ∀ Q : D → Prop, Q (.int j) → pf δ Q Q2) (c : b62 i ∧ b62 j) (h : QL (List.map D.int (rg i j))) : pRange2 pe pf δ QL Q2 := he _ (hf _ ⟨c.1, c.2, by
  rw [← rg_D] at h
  exact h⟩)
theorem y_it (he : ∀ Q : D → Prop, Q d → pe δ Q Q2) (hd : itemsD d = some (List.map f xs)) (h : QL (List.map f xs)) : pItems pe δ QL Q2 := he _ (by rw [hd]; exact h)
theorem y_en {k : Int} (he : ∀ Q : D → Prop, Q d → pe δ Q Q2) (hd : itemsD d = some (List.map f xs)) (h : QL (List.map (eP2 D.int f) (en k xs))) : pEnum k pe δ QL Q2 := he _ (by rw [hd]; rw [← en_D] at h; exact h)
theorem y_zip (he : ∀ Q : D → Prop, Q d → pe δ Q Q2) (hd : itemsD d = some (List.map f xs)) (hf : ∀ Q : D → Prop, Q d2 → pf δ Q Q2) (hd2 : itemsD d2 = some (List.map g ys)) (h : QL (List.map (eP2 f g) (xs.zip ys))) : pZip2 pe pf δ QL Q2 := he _ (hf _ (by
  simp only [hd, hd2, zipD_map]
  exact h))
noncomputable def zip3 (xs : List α) (ys : List β) (zs : List γ) : List (α × β × γ) := xs.zip (ys.zip zs)
end
section
variable {α β γ ε : Type} {f : α → D} {g : β → D} {h : γ → D} {i : ε → D} {δ : Dl} {K : Dl → Prop} {u : List D → Dl → (Dl → Prop) → Prop}
theorem y_g2 {x : α × β} (q : u [f x.1, g x.2] δ K) : pgSeq 2 u (eP2 f g x) δ K := ⟨rfl, q⟩
end
section
variable {δ : Dl} {P : PEnds} {i : Nat} {pb : PSx}
end
end Pu
set_option Elab.async false
set_option linter.all false
set_option maxRecDepth 100000
set_option maxHeartbeats 2000000
set_option autoImplicit false
namespace Pu
open PySem PySem.Spec PyProof.Rows L2
noncomputable def okE : Nat → D → Prop
  | 0, _ => False
  | _ + 1, .non => True
  | _ + 1, .int _ => True
  | _ + 1, .str s => PyData.strOk s = true
  | n + 1, .lst ds => ∀ d ∈ ds, okE n d
  | n + 1, .tup ds => ∀ d ∈ ds, okE n d
  | _ + 1, _ => False
theorem okE_py : ∀ (n : Nat) (d : D), okE n d → ∃ p, toPy d = some p ∧ p.canLay0 = true ∧ p.depth ≤ n
  | 0, _, h => h.elim
  | n + 1, d, h => by
    have all : ∀ ds : List D, (∀ d ∈ ds, okE n d) → ∃ ps, toPyAll ds = some ps ∧ PyData.canLayAll0 ps = true ∧ PyData.depthAll ps ≤ n := by
      intro ds
      induction ds with
      | nil => intro _; exact ⟨[], rfl, rfl, Nat.zero_le _⟩
      | cons d ds ih =>
        intro h
        obtain ⟨p, h1, h2, h3⟩ := okE_py n d (h d List.mem_cons_self)
        obtain ⟨ps, h4, h5, h6⟩ := ih fun e he => h e (List.mem_cons_of_mem _ he)
        refine ⟨p :: ps, ?_, ?_, ?_⟩
        · unfold toPyAll; rw [h1, h4]
        · unfold PyData.canLayAll0; rw [h2, h5]; rfl
        · unfold PyData.depthAll; exact Nat.max_le.mpr ⟨h3, h6⟩
    cases d with
    | non => exact ⟨_, rfl, rfl, Nat.zero_le _⟩
    | int i => exact ⟨_, rfl, rfl, Nat.zero_le _⟩
    | str s => exact ⟨_, rfl, h, Nat.zero_le _⟩
    | lst ds =>
      obtain ⟨ps, h1, h2, h3⟩ := all ds h
      refine ⟨.list ps, ?_, ?_, ?_⟩
      · unfold toPy; rw [h1]; rfl
      · unfold PyData.canLay0; exact h2
      · unfold PyData.depth; exact Nat.succ_le_succ h3
    | tup ds =>
      obtain ⟨ps, h1, h2, h3⟩ := all ds h
      refine ⟨.tuple ps, ?_, ?_, ?_⟩
      · unfold toPy; rw [h1]; rfl
      · unfold PyData.canLay0; exact h2
      · unfold PyData.depth; exact Nat.succ_le_succ h3
    | bl _ => exact h.elim
    | obj _ _ => exact h.elim
    | pool => exact h.elim
    | cls _ => exact h.elim
    | script _ => exact h.elim
    | pin _ _ => exact h.elim
    | vw _ => exact h.elim
theorem okE_eqv : ∀ (n : Nat) (d e : D) (p q : PyData), okE n d → okE n e → toPy d = some p → toPy e = some q → (PyData.eqv p q = true ↔ d = e)
  | 0, _, _, _, _, h, _, _, _ => h.elim
  | n + 1, d, e, p, q, h1, h2, e1, e2 => by
    have all : ∀ (ds es : List D) (ps qs : List PyData), (∀ d ∈ ds, okE n d) → (∀ d ∈ es, okE n d) → toPyAll ds = some ps → toPyAll es = some qs → (PyData.eqvAll ps qs = true ↔ ds = es) := by
      intro ds
      induction ds with
      | nil =>
        intro es ps qs _ _ e1 e2
        cases e1
        cases es with
        | nil => cases e2; exact ⟨fun _ => rfl, fun _ => rfl⟩
        | cons e es =>
          unfold toPyAll at e2
          split at e2
          · cases e2; exact ⟨fun z => (by simp [PyData.eqvAll] at z), fun z => (by cases z)⟩
          · cases e2
      | cons d ds ih =>
        intro es ps qs h1 h2 e1 e2
        unfold toPyAll at e1
        split at e1
        · rename_i a as ha has
          cases e1
          cases es with
          | nil => cases e2; exact ⟨fun z => (by simp [PyData.eqvAll] at z), fun z => (by cases z)⟩
          | cons e es =>
            unfold toPyAll at e2
            split at e2
            · rename_i b bs hb hbs
              cases e2
              have i1 := okE_eqv n d e a b (h1 d List.mem_cons_self) (h2 e List.mem_cons_self) ha hb
              have i2 := ih es as bs (fun x hx => h1 x (List.mem_cons_of_mem _ hx)) (fun x hx => h2 x (List.mem_cons_of_mem _ hx)) has hbs
              unfold PyData.eqvAll
              rw [Bool.and_eq_true, i1, i2]
              exact ⟨fun z => by rw [z.1, z.2], fun z => by injection z with z1 z2; exact ⟨z1, z2⟩⟩
            · cases e2
        · cases e1
    have ma : ∀ (o : Option (List PyData)) (r : PyData), o.map PyData.list = some r → ∃ ps, o = some ps ∧ r = .list ps := fun o r h => by cases o with
      | none => cases h
      | some ps => cases h; exact ⟨ps, rfl, rfl⟩
    have mb : ∀ (o : Option (List PyData)) (r : PyData), o.map PyData.tuple = some r → ∃ ps, o = some ps ∧ r = .tuple ps := fun o r h => by cases o with
      | none => cases h
      | some ps => cases h; exact ⟨ps, rfl, rfl⟩
    cases d <;> cases e <;> first
      | exact h1.elim
      | exact h2.elim
      | (unfold toPy at e1 e2
         first
         | (cases e1; cases e2; simp [PyData.eqv]; done)
         | (obtain ⟨ps, e3, rfl⟩ := ma _ _ e1
            obtain ⟨qs, e4, rfl⟩ := ma _ _ e2
            have := all _ _ ps qs h1 h2 e3 e4
            unfold PyData.eqv
            rw [this]
            exact ⟨fun z => by rw [z], fun z => by injection z⟩)
         | (obtain ⟨ps, e3, rfl⟩ := mb _ _ e1
            obtain ⟨qs, e4, rfl⟩ := mb _ _ e2
            have := all _ _ ps qs h1 h2 e3 e4
            unfold PyData.eqv
            rw [this]
            exact ⟨fun z => by rw [z], fun z => by injection z⟩)
         | (obtain ⟨ps, e3, rfl⟩ := ma _ _ e1
            obtain ⟨qs, e4, rfl⟩ := mb _ _ e2
            simp [PyData.eqv]; done)
         | (obtain ⟨ps, e3, rfl⟩ := mb _ _ e1
            obtain ⟨qs, e4, rfl⟩ := ma _ _ e2
            simp [PyData.eqv]; done)
         | (obtain ⟨ps, e3, rfl⟩ := ma _ _ e1; cases e2; simp [PyData.eqv]; done)
         | (obtain ⟨ps, e3, rfl⟩ := mb _ _ e1; cases e2; simp [PyData.eqv]; done)
         | (obtain ⟨ps, e3, rfl⟩ := ma _ _ e2; cases e1; simp [PyData.eqv]; done)
         | (obtain ⟨ps, e3, rfl⟩ := mb _ _ e2; cases e1; simp [PyData.eqv]; done))
theorem okE_shaped {n : Nat} {d : D} {p : PyData} (hn : n ≤ 64) (h : okE n d) (e : toPy d = some p) : SeqAt.shaped p = true := by
  obtain ⟨p', h1, h2, h3⟩ := okE_py n d h
  rw [e] at h1
  cases h1
  unfold SeqAt.shaped
  rw [h2, decide_eq_true (Nat.le_trans h3 hn)]
  rfl
theorem y_neD {d e : D} {Q : D → Prop} (hd : okE 8 d) (he : okE 8 e) (h : ∀ b : Bool, (b = true ↔ d ≠ e) → Q (.bl b)) : fNe d e Q := by
  obtain ⟨p, h1, _, _⟩ := okE_py 8 d hd
  obtain ⟨q, h2, _, _⟩ := okE_py 8 e he
  refine ⟨p, q, h1, h2, okE_shaped (by decide) hd h1, okE_shaped (by decide) he h2, h _ ?_⟩
  have := okE_eqv 8 d e p q hd he h1 h2
  cases hk : PyData.eqv p q
  · rw [hk] at this
    exact ⟨fun _ z => (by have := this.mpr z; cases this), fun _ => rfl⟩
  · rw [hk] at this
    exact ⟨fun z => (by cases z), fun z => absurd (this.mp rfl) z⟩
class EInj {α : Type} (f : α → D) : Prop where
  inj : ∀ a b, f a = f b → a = b
class EOkE {α : Type} (f : α → D) (n : Nat) : Prop where
  ok : ∀ a, okE n (f a)
section
variable {α β γ ε : Type} {f : α → D} {g : β → D} {h : γ → D} {i : ε → D} {n : Nat}
theorem map_inj [EInj f] : ∀ xs ys : List α, List.map f xs = List.map f ys → xs = ys
  | [], [], _ => rfl
  | [], _ :: _, e => by cases e
  | _ :: _, [], e => by cases e
  | x :: xs, y :: ys, e => by
    rw [List.map_cons, List.map_cons] at e
    injection e with e1 e2
    rw [EInj.inj (f := f) _ _ e1, map_inj xs ys e2]
instance : EInj D.int := ⟨fun _ _ e => by injection e⟩
instance : EInj D.str := ⟨fun _ _ e => by injection e⟩
instance : EInj eD := ⟨fun _ _ e => e⟩
instance [EInj f] : EInj (eL f) := ⟨fun a b e => by injection e with e; exact map_inj a b e⟩
instance [EInj f] : EInj (eT f) := ⟨fun a b e => by injection e with e; exact map_inj a b e⟩
instance [EInj f] : EInj (eP1 f) := ⟨fun a b e => by injection e with e; injection e with e1; exact EInj.inj (f := f) _ _ e1⟩
instance [EInj f] [EInj g] : EInj (eP2 f g) := ⟨fun a b e => by injection e with e; injection e with e1 e; injection e with e2; exact Prod.ext (EInj.inj (f := f) _ _ e1) (EInj.inj (f := g) _ _ e2)⟩
instance [EInj f] [EInj g] : EInj (eR2 f g) := ⟨fun a b e => by injection e with e; injection e with e1 e; injection e with e2; exact Prod.ext (EInj.inj (f := f) _ _ e1) (EInj.inj (f := g) _ _ e2)⟩
instance [EInj f] [EInj g] [EInj h] : EInj (eP3 f g h) := ⟨fun a b e => by injection e with e; injection e with e1 e; injection e with e2 e; injection e with e3; exact Prod.ext (EInj.inj (f := f) _ _ e1) (Prod.ext (EInj.inj (f := g) _ _ e2) (EInj.inj (f := h) _ _ e3))⟩
instance [EInj f] [EInj g] [EInj h] : EInj (eR3 f g h) := ⟨fun a b e => by injection e with e; injection e with e1 e; injection e with e2 e; injection e with e3; exact Prod.ext (EInj.inj (f := f) _ _ e1) (Prod.ext (EInj.inj (f := g) _ _ e2) (EInj.inj (f := h) _ _ e3))⟩
instance : EOkE D.int (n + 1) := ⟨fun _ => trivial⟩
instance [EOkE f n] : EOkE (eL f) (n + 1) := ⟨fun a d hd => by obtain ⟨x, _, rfl⟩ := List.mem_map.mp hd; exact EOkE.ok x⟩
instance [EOkE f n] : EOkE (eT f) (n + 1) := ⟨fun a d hd => by obtain ⟨x, _, rfl⟩ := List.mem_map.mp hd; exact EOkE.ok x⟩
instance [EOkE f n] : EOkE (eP1 f) (n + 1) := ⟨fun a d hd => by
  simp only [List.mem_cons, List.not_mem_nil, or_false] at hd
  subst hd
  exact EOkE.ok _⟩
instance [EOkE f n] [EOkE g n] : EOkE (eP2 f g) (n + 1) := ⟨fun a d hd => by
  simp only [List.mem_cons, List.not_mem_nil, or_false] at hd
  rcases hd with rfl | rfl
  · exact EOkE.ok (f := f) _
  · exact EOkE.ok (f := g) _⟩
instance [EOkE f n] [EOkE g n] : EOkE (eR2 f g) (n + 1) := ⟨fun a d hd => by
  simp only [List.mem_cons, List.not_mem_nil, or_false] at hd
  rcases hd with rfl | rfl
  · exact EOkE.ok (f := f) _
  · exact EOkE.ok (f := g) _⟩
instance [EOkE f n] [EOkE g n] [EOkE h n] : EOkE (eP3 f g h) (n + 1) := ⟨fun a d hd => by
  simp only [List.mem_cons, List.not_mem_nil, or_false] at hd
  rcases hd with rfl | rfl | rfl
  · exact EOkE.ok (f := f) _
  · exact EOkE.ok (f := g) _
  · exact EOkE.ok (f := h) _⟩
instance [EOkE f n] [EOkE g n] [EOkE h n] : EOkE (eR3 f g h) (n + 1) := ⟨fun a d hd => by
  simp only [List.mem_cons, List.not_mem_nil, or_false] at hd
  rcases hd with rfl | rfl | rfl
  · exact EOkE.ok (f := f) _
  · exact EOkE.ok (f := g) _
  · exact EOkE.ok (f := h) _⟩
variable {a b : α} {Q : D → Prop}
theorem y_ne [EInj f] (ha : okE 8 (f a)) (hb : okE 8 (f b)) (q : ∀ c : Bool, (c = true ↔ a ≠ b) → Q (.bl c)) : fNe (f a) (f b) Q := y_neD ha hb fun c hc => q c (hc.trans ⟨fun z y => z (by rw [y]), fun z y => z (EInj.inj (f := f) _ _ y)⟩)
theorem y_ned [EInj f] [Decidable (a = b)] (ha : okE 8 (f a)) (hb : okE 8 (f b)) (q : Q (.bl (!decide (a = b)))) : fNe (f a) (f b) Q := y_ne ha hb fun c hc => by
  have : c = !decide (a = b) := by
    rw [Bool.eq_iff_iff, hc]
    by_cases z : a = b <;> simp [z]
  rw [this]
  exact q
theorem y_ok [EOkE f 8] : okE 8 (f a) := EOkE.ok a
end
end Pu
set_option Elab.async false
set_option linter.all false
set_option maxRecDepth 100000
set_option maxHeartbeats 2000000
set_option autoImplicit false
namespace Pu
open PySem PySem.Spec PyProof.Rows L2
noncomputable def aoK (F : List D → Prop) : D → Prop := fun d => match d with | .lst ds => F ds | _ => False
noncomputable def extK (ds : List D) (F : List D → Prop) : D → Prop := fun d => match d with | .lst es => ds.length + es.length ≤ szl ∧ F (ds ++ es) | _ => False
section
variable {α β : Type} {f : α → D} {g : β → D} {xs ys : List α} {y : α} {F : List D → Prop} {j : Int} {ds : List D}
theorem k_ao (h : F ds) : aoK F (.lst ds) := h
theorem y_app (c : xs.length < szl) (h : F (List.map f (xs ++ [y]))) : appK (List.map f xs) F (f y) := k_appM c h
theorem y_ins (c : xs.length < szl ∧ 0 ≤ j ∧ j < 2 ^ 63) (h : F (List.map f (ins xs j y))) : insK (List.map f xs) F (.int j) (f y) := k_insM c.1 c.2.1 c.2.2 h
theorem y_set (c : ixOk xs j) (h : F (List.map f (st xs j y))) : ixSet (List.map f xs) (f y) F (.int j) := k_setM c.1 c.2 h
noncomputable def setLast (xs : List α) (y : α) : List α := xs.dropLast ++ [y]
theorem y_ext (c : xs.length + ys.length ≤ szl) (h : F (List.map f (xs ++ ys))) : extK (List.map f xs) F (.lst (List.map f ys)) := ⟨by rw [List.length_map, List.length_map]; exact c, by
  rw [List.map_append] at h
  exact h⟩
theorem y_pop [Inhabited α] {G : D → List D → Prop} (c : ixOk xs j ∧ xs.length < 2 ^ 62) (h : G (f (gi xs j)) (List.map f (era xs j))) : popMK (List.map f xs) G (.int j) := k_popMK c.1.1 c.1.2 c.2 fun z hz => by
  rw [gi_get c.1] at hz
  cases hz
  exact h
noncomputable def lstK (Q : D → Prop) (ds : List D) : Prop := ds.length ≤ szl ∧ Q (.lst ds)
theorem e_lstK {p : PAx} {δ : Dl} {Q : D → Prop} {Q2 : Exn → Prop} (h : p δ (lstK Q) Q2) : pLst p δ Q Q2 := h
theorem k_lst {Q : D → Prop} {ds : List D} (c : ds.length ≤ szl) (h : Q (.lst ds)) : lstK Q ds := ⟨c, h⟩
noncomputable def cntK (ns : List Int) (Q : D → Prop) : D → Prop := fun y => match y with | .int k => Q (.int (ns.count k : Nat)) | _ => False
theorem k_cnt {ns : List Int} {Q : D → Prop} {k : Int} (h : Q (.int (ns.count k : Nat))) : cntK ns Q (.int k) := h
theorem e_cnt {ns : List Int} {d : D} {δ : Dl} {pe pa : PX} {Q : D → Prop} {Q2 : Exn → Prop} (e : itemsD d = some (List.map D.int ns)) (hd : ∀ K : D → Prop, K d → pe δ K Q2) (h : pa δ (cntK ns Q) Q2) : pCount pe pa δ Q Q2 := o_count e h fun K hK => hd K hK
variable {a0 a1 a2 a3 a4 a5 a6 a7 : α} {Q : D → Prop} {d0 d1 d2 d3 d4 d5 d6 d7 : D}
theorem ln0 : ([] : List D).length ≤ szl := by decide
theorem ln1 : [d0].length ≤ szl := by simp only [List.length_cons, List.length_nil]; decide
theorem ln2 : [d0, d1].length ≤ szl := by simp only [List.length_cons, List.length_nil]; decide
theorem ln3 : [d0, d1, d2].length ≤ szl := by simp only [List.length_cons, List.length_nil]; decide
theorem ln4 : [d0, d1, d2, d3].length ≤ szl := by simp only [List.length_cons, List.length_nil]; decide
theorem y_mk0 (h : Q (.lst (List.map f []))) : lstK Q ([] : List D) := ⟨ln0, h⟩
theorem y_mk1 (h : Q (.lst (List.map f [a0]))) : lstK Q [f a0] := ⟨ln1, h⟩
theorem y_mk4 (h : Q (.lst (List.map f [a0, a1, a2, a3]))) : lstK Q [f a0, f a1, f a2, f a3] := ⟨ln4, h⟩
variable {l : List D}
theorem y_l0 (h : Q d0) : fIx (.lst (d0 :: l)) (.int 0) Q := o_ixL0 h
theorem y_l1 (h : Q d1) : fIx (.lst (d0 :: d1 :: l)) (.int 1) Q := o_ixL (x := 1) (d := d1) (by unfold atI ixN; rw [if_pos (by decide), if_pos (by simp only [List.length_cons]; omega)]; rfl) h
theorem y_l2 (h : Q d2) : fIx (.lst (d0 :: d1 :: d2 :: l)) (.int 2) Q := o_ixL (x := 2) (d := d2) (by unfold atI ixN; rw [if_pos (by decide), if_pos (by simp only [List.length_cons]; omega)]; rfl) h
theorem y_t0 (h : Q d0) : fIx (.tup (d0 :: l)) (.int 0) Q := o_ixT (x := 0) (d := d0) (by unfold atI ixN; rw [if_pos (by decide), if_pos (by simp only [List.length_cons]; omega)]; rfl) h
theorem y_t1 (h : Q d1) : fIx (.tup (d0 :: d1 :: l)) (.int 1) Q := o_ixT (x := 1) (d := d1) (by unfold atI ixN; rw [if_pos (by decide), if_pos (by simp only [List.length_cons]; omega)]; rfl) h
theorem y_t2 (h : Q d2) : fIx (.tup (d0 :: d1 :: d2 :: l)) (.int 2) Q := o_ixT (x := 2) (d := d2) (by unfold atI ixN; rw [if_pos (by decide), if_pos (by simp only [List.length_cons]; omega)]; rfl) h
theorem set_lit {N : Dl → Prop} {δ δ' : Dl} (e : δ = δ') (h : N δ') : N δ := by rw [e]; exact h
theorem w_sf0 {P : PEnds} {pe : PX} {c j : Nat} {a : Addr} {ds : List D} {l : Dl} (hj : ds.length = j) (h : pe (some (.slf a c ds) :: l) (fun d => P.nx (some (.slf a c (ds ++ [d])) :: l)) (P.ex (some (.slf a c ds) :: l))) : pSetF 0 c j pe P (some (.slf a c ds) :: l) := w_setF rfl hj h
end
end Pu
namespace Pu
open PySem PySem.Spec PyProof.Rows L2
section
variable {δ : Dl} {P : PEnds} {Q2 : Exn → Prop} {p : Prop} {pe : PX} {i : Nat} {pb : PSx}
theorem y_nedd {α : Type} {f : α → D} [EInj f] {a b : α} [Decidable (a = b)] {Q : D → Prop} (ha : okE 8 (f a)) (hb : okE 8 (f b)) (q : Q (.bl (decide (a ≠ b)))) : fNe (f a) (f b) Q := y_ned ha hb (by
  have e : decide (a ≠ b) = !decide (a = b) := by by_cases z : a = b <;> simp [z]
  rw [e] at q
  exact q)
end
section
class NoLs {α : Type} (f : α → D) : Prop where
  no : ∀ a, noL (f a) = true
variable {α β : Type} {f : α → D} {g : β → D}
theorem noLL_map [NoLs f] : ∀ xs : List α, noLL (List.map f xs) = true
  | [] => rfl
  | x :: xs => by
    rw [List.map_cons]
    unfold noLL
    rw [NoLs.no (f := f) x, noLL_map xs]
    rfl
instance : NoLs D.int := ⟨fun _ => rfl⟩
instance : NoLs D.bl := ⟨fun _ => rfl⟩
instance : NoLs D.str := ⟨fun _ => rfl⟩
instance : NoLs eN := ⟨fun _ => rfl⟩
instance [NoLs f] : NoLs (eT f) := ⟨fun a => by show noL (.tup _) = true; unfold noL; exact noLL_map a⟩
instance [NoLs f] [NoLs g] : NoLs (eP2 f g) := ⟨fun a => by show noL (.tup _) = true; unfold noL noLL noLL noLL; rw [NoLs.no (f := f), NoLs.no (f := g)]; rfl⟩
instance : NoLs eDp := ⟨fun a => by show noL (.obj _ _) = true; simp [noL, noLL, noLL_map]⟩
instance : NoLs eBk := ⟨fun a => by show noL (.obj _ _) = true; simp [noL, noLL, noLL_map]⟩
instance : NoLs eAf := ⟨fun a => by show noL (.obj _ _) = true; simp [noL, noLL, noLL_map]⟩
theorem nl [NoLs f] {a : α} : noL (f a) = true := NoLs.no a
end
end Pu
namespace Pu
open PySem PySem.Spec PyProof.Rows L2
section
variable {δ : Dl} {P : PEnds} {Q2 : Exn → Prop} {p q : Prop} {pt pu : PTx} {pe pa pb : PX} {a b : PSx} {Q : D → Prop} {ds : List D}
theorem hdL : itemsD (.lst ds) = some ds := rfl
theorem hdT : itemsD (.tup ds) = some ds := rfl
theorem e_andT (ha : ∀ Q : D → Prop, Q (.bl true) → pa δ Q Q2) (h : pb δ Q Q2) : pAndV pa pb δ Q Q2 := ha _ h
theorem e_notF (ha : ∀ Q : D → Prop, Q (.bl false) → pa δ Q Q2) (h : Q (.bl true)) : pNotV pa δ Q Q2 := ha _ h
theorem tt_T (ha : ∀ Q : D → Prop, Q (.bl true) → pe δ Q Q2) : TT (pTru pe) δ Q2 True := fun _ hq => ha _ (hq _ (by simp))
theorem tt_sT (ha : ∀ Q : D → Prop, Q (.bl true) → pe δ Q Q2) : TT (pTst pe) δ Q2 True := fun _ hq => ha _ (hq _ (by simp))
theorem tt_sF (ha : ∀ Q : D → Prop, Q (.bl false) → pe δ Q Q2) : TT (pTst pe) δ Q2 False := fun _ hq => ha _ (hq _ (by simp))
theorem tt_orF (ha : TT pt δ Q2 False) (hb : TT pu δ Q2 q) : TT (pOrT pt pu) δ Q2 q := tt_iff (tt_or ha fun _ => hb) (by simp)
theorem tt_orT (ha : TT pt δ Q2 True) : TT (pOrT pt pu) δ Q2 True := tt_iff (tt_or (q := True) ha fun z => absurd trivial z) (by simp)
theorem tt_notT (ha : TT pt δ Q2 True) : TT (pNotT pt) δ Q2 False := tt_iff (tt_not ha) (by simp)
theorem w_ifTrue (ht : TT pt δ (P.ex δ) True) (h : a P δ) : pIf pt a b P δ := w_ifT ht (fun _ => h) fun z => absurd trivial z
noncomputable def srt (ns : List Int) : List Int := ns.mergeSort fun a b => decide (a ≤ b)
theorem srt_perm (ns : List Int) : (srt ns).Perm ns := List.mergeSort_perm ns _
theorem srt_sorted (ns : List Int) : (srt ns).Pairwise (· ≤ ·) := by
  have := List.pairwise_mergeSort (le := fun a b : Int => decide (a ≤ b)) (fun a b c h1 h2 => by
    have h1' := of_decide_eq_true h1
    have h2' := of_decide_eq_true h2
    exact decide_eq_true (Int.le_trans h1' h2')) (fun a b => by
    rcases Int.le_total a b with h | h
    · simp [h]
    · simp [h]) ns
  exact this.imp fun h => of_decide_eq_true h
theorem y_srt {ns : List Int} (h : Q (.lst (List.map D.int (srt ns)))) : fSortI [.lst (List.map D.int ns)] Q := y_sort fun ns' h1 h2 => by
  have : ns' = srt ns := sorted_eq (h1.trans (srt_perm ns).symm) h2 (srt_sorted ns)
  rw [this]
  exact h
end
end Pu
namespace Pu
open PySem PySem.Spec PyProof.Rows L2
section
variable {τ : Type} {δ : Dl} {pe : PX} {Q : D → Prop} {Q2 : Exn → Prop}
theorem jnT {pt : PTx} {QT : Bool → Prop} {F : (Bool → Prop) → Prop} {K : Bool → Prop} (h : jn F K) (hr : ∀ b, K b → QT b) (hf : ∀ (k : Bool → Prop) (Q' : Bool → Prop), (∀ b, k b → Q' b) → F k → pt δ Q' Q2) : pt δ QT Q2 := hf K QT hr h
end
end Pu
namespace Pu
section
variable {Q : D → Prop} {x y : Int}
theorem y_neT (c : x ≠ y) (q : Q (.bl true)) : fNe (.int x) (.int y) Q := o_ne (by rw [decide_eq_true c]; exact q)
theorem y_neF (c : ¬ (x ≠ y)) (q : Q (.bl false)) : fNe (.int x) (.int y) Q := o_ne (by rw [decide_eq_false c]; exact q)
end
end Pu
namespace Pu
noncomputable def fzoK (Q : D → Prop) : D → Prop := fun d => (match d with | .lst es => noLL es = true | _ => False) ∧ Q d
end Pu
set_option Elab.async false
set_option linter.all false
set_option maxRecDepth 100000
set_option maxHeartbeats 2000000
set_option autoImplicit false
namespace Pu
open PySem PySem.Spec PyProof.Rows L2
noncomputable def rg1K (QL : List D → Prop) : D → Prop := fun d => match d with | .int j => b62 j ∧ QL (rangeD 0 j.toNat) | _ => False
noncomputable def rg2K (QL : List D → Prop) (i : D) : D → Prop := fun d => match i, d with | .int i, .int j => b62 i ∧ b62 j ∧ QL (rangeD i (j - i).toNat) | _, _ => False
noncomputable def itK (QL : List D → Prop) : D → Prop := fun d => match itemsD d with | some ds => QL ds | none => False
noncomputable def enK (k : Int) (QL : List D → Prop) : D → Prop := fun d => match itemsD d with | some ds => QL (enumD k ds) | none => False
section
variable {δ : Dl} {pe pf : PX} {QL : List D → Prop} {Q2 : Exn → Prop} {α : Type} {f : α → D} {xs : List α} {d : D} {i j k : Int}
theorem l_rg1K (h : pe δ (rg1K QL) Q2) : pRange1 pe δ QL Q2 := h
theorem l_enK (h : pe δ (enK k QL) Q2) : pEnum k pe δ QL Q2 := h
theorem k_rg1 (c : b62 j) (h : QL (List.map D.int (rg 0 j))) : rg1K QL (.int j) := ⟨c, by rw [← rg_D, Int.sub_zero] at h; exact h⟩
theorem k_en (hd : itemsD d = some (List.map f xs)) (h : QL (List.map (eP2 D.int f) (en k xs))) : enK k QL d := by unfold enK; rw [hd]; rw [← en_D] at h; exact h
end
noncomputable def sameT (a b : D) : Prop := okS 6 a ∧ a = b
end Pu
namespace Pu
open PySem PySem.Spec PyProof.Rows L2
noncomputable def okB : Nat → D → Prop
  | 0, _ => False
  | _ + 1, .non => True
  | _ + 1, .bl _ => True
  | _ + 1, .int _ => True
  | _ + 1, .str s => PyData.strOk s = true
  | n + 1, .lst ds => ∀ d ∈ ds, okB n d
  | n + 1, .tup ds => ∀ d ∈ ds, okB n d
  | _ + 1, _ => False
section
variable {Q : D → Prop} {ds : List D}
end
class EBk {α : Type} (f : α → D) (n : Nat) : Prop where
  ok : ∀ a, okB n (f a)
section
variable {α β γ ε ζ : Type} {f : α → D} {g : β → D} {h : γ → D} {i : ε → D} {j : ζ → D} {n : Nat}
instance : EBk D.int (n + 1) := ⟨fun _ => trivial⟩
instance : EBk D.bl (n + 1) := ⟨fun _ => trivial⟩
instance : EBk eN (n + 1) := ⟨fun _ => trivial⟩
instance [EBk f n] : EBk (eL f) (n + 1) := ⟨fun a d hd => by obtain ⟨x, _, rfl⟩ := List.mem_map.mp hd; exact EBk.ok x⟩
instance [EBk f n] : EBk (eT f) (n + 1) := ⟨fun a d hd => by obtain ⟨x, _, rfl⟩ := List.mem_map.mp hd; exact EBk.ok x⟩
instance [EBk f n] [EBk g n] : EBk (eP2 f g) (n + 1) := ⟨fun a d hd => by
  simp only [List.mem_cons, List.not_mem_nil, or_false] at hd
  rcases hd with rfl | rfl
  · exact EBk.ok (f := f) _
  · exact EBk.ok (f := g) _⟩
instance [EBk f n] [EBk g n] : EBk (eR2 f g) (n + 1) := ⟨fun a d hd => by
  simp only [List.mem_cons, List.not_mem_nil, or_false] at hd
  rcases hd with rfl | rfl
  · exact EBk.ok (f := f) _
  · exact EBk.ok (f := g) _⟩
instance [EBk f n] [EBk g n] [EBk h n] : EBk (eP3 f g h) (n + 1) := ⟨fun a d hd => by
  simp only [List.mem_cons, List.not_mem_nil, or_false] at hd
  rcases hd with rfl | rfl | rfl
  · exact EBk.ok (f := f) _
  · exact EBk.ok (f := g) _
  · exact EBk.ok (f := h) _⟩
instance [EBk f n] [EBk g n] [EBk h n] : EBk (eR3 f g h) (n + 1) := ⟨fun a d hd => by
  simp only [List.mem_cons, List.not_mem_nil, or_false] at hd
  rcases hd with rfl | rfl | rfl
  · exact EBk.ok (f := f) _
  · exact EBk.ok (f := g) _
  · exact EBk.ok (f := h) _⟩
end
end Pu
namespace Pu
section
variable {Q : D → Prop} {ds : List D} {d : D} {α : Type} {f : α → D} {xs : List α}
end
end Pu
namespace Pu
end Pu
namespace Pu
noncomputable def takeOk (n : Int) : Prop := 1 ≤ n ∧ n < 2 ^ 200
noncomputable def takeT (limit : Int) (Q : Int → Prop) : Prop := ∀ r : Int, 0 ≤ r → r < limit → Q r
end Pu
set_option Elab.async false
set_option linter.all false
set_option maxRecDepth 100000
set_option maxHeartbeats 2000000
set_option autoImplicit false
namespace Pu
open PySem PySem.Spec PyProof.Rows L2
section
variable {α β γ ε ζ : Type}
noncomputable abbrev eV (f : α → D) (xs : List α) : D := .vw (List.map f xs)
noncomputable abbrev eW0 (_ : Unit) : D := .vw []
noncomputable abbrev eW1 (f : α → D) (p : α) : D := .vw [f p]
noncomputable abbrev eW2 (f : α → D) (g : β → D) (p : α × β) : D := .vw [f p.1, g p.2]
noncomputable abbrev eW3 (f : α → D) (g : β → D) (h : γ → D) (p : α × β × γ) : D := .vw [f p.1, g p.2.1, h p.2.2]
noncomputable abbrev eW4 (f : α → D) (g : β → D) (h : γ → D) (i : ε → D) (p : α × β × γ × ε) : D := .vw [f p.1, g p.2.1, h p.2.2.1, i p.2.2.2]
noncomputable abbrev eW5 (f : α → D) (g : β → D) (h : γ → D) (i : ε → D) (j : ζ → D) (p : α × β × γ × ε × ζ) : D := .vw [f p.1, g p.2.1, h p.2.2.1, i p.2.2.2.1, j p.2.2.2.2]
class VE (f : α → D) (g : outParam (α → D)) : Prop where
  h : ∀ x, viewD (f x) = g x
variable {f f' : α → D} {g g' : β → D} {h h' : γ → D} {i i' : ε → D} {j j' : ζ → D}
theorem vql_map [VE f f'] : ∀ xs : List α, viewL (List.map f xs) = List.map f' xs
  | [] => rfl
  | x :: xs => by rw [List.map_cons, List.map_cons]; unfold viewL; rw [VE.h (f := f) x, vql_map xs]
theorem vq_tup {ds ds' : List D} (e : viewL ds = ds') : viewD (.tup ds) = .tup ds' := by unfold viewD; rw [e]
theorem vq_lst {ds ds' : List D} (e : viewL ds = ds') : viewD (.lst ds) = .vw ds' := by unfold viewD; rw [e]
theorem vq_vw {ds ds' : List D} (e : viewL ds = ds') : viewD (.vw ds) = .vw ds' := by unfold viewD; rw [e]
theorem vq_obj {c : Nat} {ds ds' : List D} (e : viewL ds = ds') : viewD (.obj c ds) = .obj c ds' := by unfold viewD; rw [e]
theorem vql_nil : viewL [] = [] := rfl
theorem vql_cons {d d' : D} {ds ds' : List D} (e : viewD d = d') (e2 : viewL ds = ds') : viewL (d :: ds) = d' :: ds' := by unfold viewL; rw [e, e2]
theorem vq [VE f f'] (x : α) : viewD (f x) = f' x := VE.h x
instance : VE D.int D.int := ⟨fun _ => rfl⟩
instance : VE D.bl D.bl := ⟨fun _ => rfl⟩
instance : VE D.str D.str := ⟨fun _ => rfl⟩
instance : VE eN eN := ⟨fun _ => rfl⟩
instance [VE f f'] : VE (eL f) (eV f') := ⟨fun x => vq_lst (vql_map x)⟩
instance [VE f f'] : VE (eV f) (eV f') := ⟨fun x => vq_vw (vql_map x)⟩
instance [VE f f'] : VE (eT f) (eT f') := ⟨fun x => vq_tup (vql_map x)⟩
instance : VE eP0 eP0 := ⟨fun _ => rfl⟩
instance : VE eR0 eW0 := ⟨fun _ => rfl⟩
instance [VE f f'] : VE (eP1 f) (eP1 f') := ⟨fun x => vq_tup (vql_cons (vq _) vql_nil)⟩
instance [VE f f'] [VE g g'] : VE (eP2 f g) (eP2 f' g') := ⟨fun x => vq_tup (vql_cons (vq _) (vql_cons (vq _) vql_nil))⟩
instance [VE f f'] [VE g g'] [VE h h'] : VE (eP3 f g h) (eP3 f' g' h') := ⟨fun x => vq_tup (vql_cons (vq _) (vql_cons (vq _) (vql_cons (vq _) vql_nil)))⟩
instance [VE f f'] [VE g g'] [VE h h'] [VE i i'] : VE (eP4 f g h i) (eP4 f' g' h' i') := ⟨fun x => vq_tup (vql_cons (vq _) (vql_cons (vq _) (vql_cons (vq _) (vql_cons (vq _) vql_nil))))⟩
instance [VE f f'] [VE g g'] [VE h h'] [VE i i'] [VE j j'] : VE (eP5 f g h i j) (eP5 f' g' h' i' j') := ⟨fun x => vq_tup (vql_cons (vq _) (vql_cons (vq _) (vql_cons (vq _) (vql_cons (vq _) (vql_cons (vq _) vql_nil)))))⟩
instance [VE f f'] : VE (eR1 f) (eW1 f') := ⟨fun x => vq_lst (vql_cons (vq _) vql_nil)⟩
instance [VE f f'] [VE g g'] : VE (eR2 f g) (eW2 f' g') := ⟨fun x => vq_lst (vql_cons (vq _) (vql_cons (vq _) vql_nil))⟩
instance [VE f f'] [VE g g'] [VE h h'] : VE (eR3 f g h) (eW3 f' g' h') := ⟨fun x => vq_lst (vql_cons (vq _) (vql_cons (vq _) (vql_cons (vq _) vql_nil)))⟩
instance [VE f f'] [VE g g'] [VE h h'] [VE i i'] : VE (eR4 f g h i) (eW4 f' g' h' i') := ⟨fun x => vq_lst (vql_cons (vq _) (vql_cons (vq _) (vql_cons (vq _) (vql_cons (vq _) vql_nil))))⟩
instance [VE f f'] [VE g g'] [VE h h'] [VE i i'] [VE j j'] : VE (eR5 f g h i j) (eW5 f' g' h' i' j') := ⟨fun x => vq_lst (vql_cons (vq _) (vql_cons (vq _) (vql_cons (vq _) (vql_cons (vq _) (vql_cons (vq _) vql_nil)))))⟩
instance : VE eDp eDp := ⟨fun x => vq_obj (vql_cons rfl (vql_cons rfl (vql_cons (vq_tup (vql_map _)) vql_nil)))⟩
instance : VE eBk eBk := ⟨fun x => vq_obj (vql_cons (vq_tup (vql_map _)) (vql_cons rfl vql_nil))⟩
instance : VE eAf eAf := ⟨fun x => vq_obj (vql_cons rfl (vql_cons (vq_tup (vql_map _)) (vql_cons (vq_tup (vql_map _)) (vql_cons (vq_tup (vql_map _)) (vql_cons (vq (f := eDp) _) vql_nil)))))⟩
class NoVs (f : α → D) : Prop where
  no : ∀ a, noV (f a) = true
theorem nvl_map [NoVs f] : ∀ xs : List α, noVL (List.map f xs) = true
  | [] => rfl
  | x :: xs => by rw [List.map_cons]; unfold noVL; rw [NoVs.no (f := f) x, nvl_map xs]; rfl
theorem nv_tup {ds : List D} (e : noVL ds = true) : noV (.tup ds) = true := by unfold noV; exact e
theorem nv_lst {ds : List D} (e : noVL ds = true) : noV (.lst ds) = true := by unfold noV; exact e
theorem nv_obj {c : Nat} {ds : List D} (e : noVL ds = true) : noV (.obj c ds) = true := by unfold noV; exact e
theorem nvl_nil : noVL [] = true := rfl
theorem nvl_cons {d : D} {ds : List D} (e : noV d = true) (e2 : noVL ds = true) : noVL (d :: ds) = true := by unfold noVL; rw [e, e2]; rfl
theorem nv [NoVs f] (x : α) : noV (f x) = true := NoVs.no x
instance : NoVs D.int := ⟨fun _ => rfl⟩
instance : NoVs D.bl := ⟨fun _ => rfl⟩
instance : NoVs D.str := ⟨fun _ => rfl⟩
instance : NoVs eN := ⟨fun _ => rfl⟩
instance [NoVs f] : NoVs (eL f) := ⟨fun x => nv_lst (nvl_map x)⟩
instance [NoVs f] : NoVs (eT f) := ⟨fun x => nv_tup (nvl_map x)⟩
instance : NoVs eP0 := ⟨fun _ => rfl⟩
instance : NoVs eR0 := ⟨fun _ => rfl⟩
instance [NoVs f] : NoVs (eP1 f) := ⟨fun x => nv_tup (nvl_cons (nv _) nvl_nil)⟩
instance [NoVs f] [NoVs g] : NoVs (eP2 f g) := ⟨fun x => nv_tup (nvl_cons (nv _) (nvl_cons (nv _) nvl_nil))⟩
instance [NoVs f] [NoVs g] [NoVs h] : NoVs (eP3 f g h) := ⟨fun x => nv_tup (nvl_cons (nv _) (nvl_cons (nv _) (nvl_cons (nv _) nvl_nil)))⟩
instance [NoVs f] [NoVs g] [NoVs h] [NoVs i] : NoVs (eP4 f g h i) := ⟨fun x => nv_tup (nvl_cons (nv _) (nvl_cons (nv _) (nvl_cons (nv _) (nvl_cons (nv _) nvl_nil))))⟩
instance [NoVs f] [NoVs g] [NoVs h] [NoVs i] [NoVs j] : NoVs (eP5 f g h i j) := ⟨fun x => nv_tup (nvl_cons (nv _) (nvl_cons (nv _) (nvl_cons (nv _) (nvl_cons (nv _) (nvl_cons (nv _) nvl_nil)))))⟩
instance [NoVs f] : NoVs (eR1 f) := ⟨fun x => nv_lst (nvl_cons (nv _) nvl_nil)⟩
instance [NoVs f] [NoVs g] : NoVs (eR2 f g) := ⟨fun x => nv_lst (nvl_cons (nv _) (nvl_cons (nv _) nvl_nil))⟩
instance [NoVs f] [NoVs g] [NoVs h] : NoVs (eR3 f g h) := ⟨fun x => nv_lst (nvl_cons (nv _) (nvl_cons (nv _) (nvl_cons (nv _) nvl_nil)))⟩
instance [NoVs f] [NoVs g] [NoVs h] [NoVs i] : NoVs (eR4 f g h i) := ⟨fun x => nv_lst (nvl_cons (nv _) (nvl_cons (nv _) (nvl_cons (nv _) (nvl_cons (nv _) nvl_nil))))⟩
instance [NoVs f] [NoVs g] [NoVs h] [NoVs i] [NoVs j] : NoVs (eR5 f g h i j) := ⟨fun x => nv_lst (nvl_cons (nv _) (nvl_cons (nv _) (nvl_cons (nv _) (nvl_cons (nv _) (nvl_cons (nv _) nvl_nil)))))⟩
instance : NoVs eDp := ⟨fun x => nv_obj (nvl_cons rfl (nvl_cons rfl (nvl_cons (nv_tup (nvl_map _)) nvl_nil)))⟩
instance : NoVs eBk := ⟨fun x => nv_obj (nvl_cons (nv_tup (nvl_map _)) (nvl_cons rfl nvl_nil))⟩
instance : NoVs eAf := ⟨fun x => nv_obj (nvl_cons rfl (nvl_cons (nv_tup (nvl_map _)) (nvl_cons (nv_tup (nvl_map _)) (nvl_cons (nv_tup (nvl_map _)) (nvl_cons (nv (f := eDp) _) nvl_nil)))))⟩
end
instance {α β γ ε ζ η : Type} {f f' : α → D} {g g' : β → D} {h h' : γ → D} {i i' : ε → D} {j j' : ζ → D} {k k' : η → D} [VE f f'] [VE g g'] [VE h h'] [VE i i'] [VE j j'] [VE k k'] : VE (eP6 f g h i j k) (eP6 f' g' h' i' j' k') := ⟨fun x => vq_tup (vql_cons (vq _) (vql_cons (vq _) (vql_cons (vq _) (vql_cons (vq _) (vql_cons (vq _) (vql_cons (vq _) vql_nil))))))⟩
instance {α β γ ε ζ η : Type} {f : α → D} {g : β → D} {h : γ → D} {i : ε → D} {j : ζ → D} {k : η → D} [NoVs f] [NoVs g] [NoVs h] [NoVs i] [NoVs j] [NoVs k] : NoVs (eP6 f g h i j k) := ⟨fun x => nv_tup (nvl_cons (nv _) (nvl_cons (nv _) (nvl_cons (nv _) (nvl_cons (nv _) (nvl_cons (nv _) (nvl_cons (nv _) nvl_nil))))))⟩
instance {α β γ ε ζ η θ : Type} {f f' : α → D} {g g' : β → D} {h h' : γ → D} {i i' : ε → D} {j j' : ζ → D} {k k' : η → D} {l l' : θ → D} [VE f f'] [VE g g'] [VE h h'] [VE i i'] [VE j j'] [VE k k'] [VE l l'] : VE (eP7 f g h i j k l) (eP7 f' g' h' i' j' k' l') := ⟨fun x => vq_tup (vql_cons (vq _) (vql_cons (vq _) (vql_cons (vq _) (vql_cons (vq _) (vql_cons (vq _) (vql_cons (vq _) (vql_cons (vq _) vql_nil)))))))⟩
instance {α β γ ε ζ η θ : Type} {f : α → D} {g : β → D} {h : γ → D} {i : ε → D} {j : ζ → D} {k : η → D} {l : θ → D} [NoVs f] [NoVs g] [NoVs h] [NoVs i] [NoVs j] [NoVs k] [NoVs l] : NoVs (eP7 f g h i j k l) := ⟨fun x => nv_tup (nvl_cons (nv _) (nvl_cons (nv _) (nvl_cons (nv _) (nvl_cons (nv _) (nvl_cons (nv _) (nvl_cons (nv _) (nvl_cons (nv _) nvl_nil)))))))⟩
instance {α β γ ε ζ η θ ι : Type} {f f' : α → D} {g g' : β → D} {h h' : γ → D} {i i' : ε → D} {j j' : ζ → D} {k k' : η → D} {l l' : θ → D} {m m' : ι → D} [VE f f'] [VE g g'] [VE h h'] [VE i i'] [VE j j'] [VE k k'] [VE l l'] [VE m m'] : VE (eP8 f g h i j k l m) (eP8 f' g' h' i' j' k' l' m') := ⟨fun x => vq_tup (vql_cons (vq _) (vql_cons (vq _) (vql_cons (vq _) (vql_cons (vq _) (vql_cons (vq _) (vql_cons (vq _) (vql_cons (vq _) (vql_cons (vq _) vql_nil))))))))⟩
instance {α β γ ε ζ η θ ι : Type} {f : α → D} {g : β → D} {h : γ → D} {i : ε → D} {j : ζ → D} {k : η → D} {l : θ → D} {m : ι → D} [NoVs f] [NoVs g] [NoVs h] [NoVs i] [NoVs j] [NoVs k] [NoVs l] [NoVs m] : NoVs (eP8 f g h i j k l m) := ⟨fun x => nv_tup (nvl_cons (nv _) (nvl_cons (nv _) (nvl_cons (nv _) (nvl_cons (nv _) (nvl_cons (nv _) (nvl_cons (nv _) (nvl_cons (nv _) (nvl_cons (nv _) nvl_nil))))))))⟩
instance {α β γ ε ζ η θ ι κ : Type} {f f' : α → D} {g g' : β → D} {h h' : γ → D} {i i' : ε → D} {j j' : ζ → D} {k k' : η → D} {l l' : θ → D} {m m' : ι → D} {n n' : κ → D} [VE f f'] [VE g g'] [VE h h'] [VE i i'] [VE j j'] [VE k k'] [VE l l'] [VE m m'] [VE n n'] : VE (eP9 f g h i j k l m n) (eP9 f' g' h' i' j' k' l' m' n') := ⟨fun x => vq_tup (vql_cons (vq _) (vql_cons (vq _) (vql_cons (vq _) (vql_cons (vq _) (vql_cons (vq _) (vql_cons (vq _) (vql_cons (vq _) (vql_cons (vq _) (vql_cons (vq _) vql_nil)))))))))⟩
instance {α β γ ε ζ η θ ι κ : Type} {f : α → D} {g : β → D} {h : γ → D} {i : ε → D} {j : ζ → D} {k : η → D} {l : θ → D} {m : ι → D} {n : κ → D} [NoVs f] [NoVs g] [NoVs h] [NoVs i] [NoVs j] [NoVs k] [NoVs l] [NoVs m] [NoVs n] : NoVs (eP9 f g h i j k l m n) := ⟨fun x => nv_tup (nvl_cons (nv _) (nvl_cons (nv _) (nvl_cons (nv _) (nvl_cons (nv _) (nvl_cons (nv _) (nvl_cons (nv _) (nvl_cons (nv _) (nvl_cons (nv _) (nvl_cons (nv _) nvl_nil)))))))))⟩
instance {α β γ ε ζ η θ ι κ μ : Type} {f f' : α → D} {g g' : β → D} {h h' : γ → D} {i i' : ε → D} {j j' : ζ → D} {k k' : η → D} {l l' : θ → D} {m m' : ι → D} {n n' : κ → D} {o o' : μ → D} [VE f f'] [VE g g'] [VE h h'] [VE i i'] [VE j j'] [VE k k'] [VE l l'] [VE m m'] [VE n n'] [VE o o'] : VE (eP10 f g h i j k l m n o) (eP10 f' g' h' i' j' k' l' m' n' o') := ⟨fun x => vq_tup (vql_cons (vq _) (vql_cons (vq _) (vql_cons (vq _) (vql_cons (vq _) (vql_cons (vq _) (vql_cons (vq _) (vql_cons (vq _) (vql_cons (vq _) (vql_cons (vq _) (vql_cons (vq _) vql_nil))))))))))⟩
instance {α β γ ε ζ η θ ι κ μ : Type} {f : α → D} {g : β → D} {h : γ → D} {i : ε → D} {j : ζ → D} {k : η → D} {l : θ → D} {m : ι → D} {n : κ → D} {o : μ → D} [NoVs f] [NoVs g] [NoVs h] [NoVs i] [NoVs j] [NoVs k] [NoVs l] [NoVs m] [NoVs n] [NoVs o] : NoVs (eP10 f g h i j k l m n o) := ⟨fun x => nv_tup (nvl_cons (nv _) (nvl_cons (nv _) (nvl_cons (nv _) (nvl_cons (nv _) (nvl_cons (nv _) (nvl_cons (nv _) (nvl_cons (nv _) (nvl_cons (nv _) (nvl_cons (nv _) (nvl_cons (nv _) nvl_nil))))))))))⟩
section
variable {bs : List Bool} {l l' : Dl} {d d' : D} {ds ds' : List D} {o : Option S} {oa : Option Addr} {T : Addr → Prop}
theorem vd_e : vwDl [] [] = [] := rfl
theorem vd_f (e : vwDl bs l = l') : vwDl (false :: bs) (o :: l) = none :: l' := by unfold vwDl; rw [e]
theorem vd_d (e1 : viewD d = d') (e : vwDl bs l = l') : vwDl (true :: bs) (some (.d d) :: l) = some (.d d') :: l' := by unfold vwDl; rw [e]; show some (S.d (viewD d)) :: l' = _; rw [e1]
theorem vd_o (e1 : viewL ds = ds') (e : vwDl bs l = l') : vwDl (true :: bs) (some (.own oa ds) :: l) = some (.d (.vw ds')) :: l' := by unfold vwDl; rw [e]; show some (S.d (.vw (viewL ds))) :: l' = _; rw [e1]
theorem vd_t (e1 : viewD d = d') (e : vwDl bs l = l') : vwDl (true :: bs) (some (.tree T d) :: l) = some (.d d') :: l' := by unfold vwDl; rw [e]; show some (S.d (viewD d)) :: l' = _; rw [e1]
variable {δ δ' : Dl} {pe : PX} {pt : PTx} {Q : D → Prop} {QT : Bool → Prop} {Q2 : Exn → Prop} {P : PEnds} {i : Nat}
theorem tt_vwE (e : vwDl bs δ = δ') (h : pt δ' QT (fun e => noVL e.ds = true ∧ Q2 e)) : pVwT bs pt δ QT Q2 := by unfold pVwT; rw [e]; exact h
noncomputable def vasK (N : List D → Prop) : D → Prop := fun d => match d with | .lst ds => noLL ds = true ∧ N ds | _ => False
theorem w_asV (e : vwDl bs δ = δ') (h : pe δ' (vasK fun ds => P.nx (δ.set i (some (.own none ds)))) (fun e => noVL e.ds = true ∧ P.ex δ e)) : pAsgV bs pe i P δ := by unfold pAsgV; rw [e]; exact h
theorem k_vas {N : List D → Prop} {ds : List D} (h1 : noLL ds = true) (h : N ds) : vasK N (.lst ds) := ⟨h1, h⟩
theorem w_asT (e : vwDl bs δ = δ') (h : pe δ' (fun d => noV d = true ∧ ∀ T, P.nx (δ.set i (some (.tree T d)))) (fun e => noVL e.ds = true ∧ P.ex δ e)) : pAsgT bs pe i P δ := by unfold pAsgT; rw [e]; exact h
end
section
variable {Q : D → Prop} {F1 : Bool → Prop} {ds l : List D} {d0 d1 d2 d3 d4 : D} {δ : Dl} {K : Dl → Prop} {u : List D → Dl → (Dl → Prop) → Prop}
theorem hdV : itemsD (.vw ds) = some ds := rfl
theorem o_ixW {i : Int} {x : D} (e : atI ds i = some x) (h : Q x) : fIx (.vw ds) (.int i) Q := by have := o_ixL e h; exact this
theorem o_lenW (h : Q (.int ds.length)) : fLen [.vw ds] Q := h
theorem y_w0 (h : Q d0) : fIx (.vw (d0 :: l)) (.int 0) Q := by have := y_l0 (l := l) h; exact this
theorem y_w1 (h : Q d1) : fIx (.vw (d0 :: d1 :: l)) (.int 1) Q := by have := y_l1 (d0 := d0) (l := l) h; exact this
theorem y_w2 (h : Q d2) : fIx (.vw (d0 :: d1 :: d2 :: l)) (.int 2) Q := by have := y_l2 (d0 := d0) (d1 := d1) (l := l) h; exact this
variable {α : Type} {f : α → D} {xs ys : List α} {a b : Int}
end
section
variable {δ : Dl} {P : PEnds} {i : Nat} {up : Bool} {pp : PTr} {pe pj pk : PX} {T : Addr → Prop} {d : D} {K : D → Prop} {P2 : Exn → Prop} {nx : Dl → Prop}
noncomputable def trK (d1 : D) (K : D → Prop) : D → Prop := fun x => match x with
  | .int n => (match d1 with
    | .lst ds => (match atI ds n with | some y => K y | none => False)
    | .tup ds => (match atI ds n with | some y => K y | none => False)
    | _ => False)
  | _ => False
noncomputable def trLK (N : List D → Prop) : D → Prop := fun d1 => match d1 with | .lst es => N es | _ => False
noncomputable def trJ (es : List D) (N : Nat → Prop) : D → Prop := fun k => match k with
  | .int j => (match ixN es.length j with | some n => N n | none => False)
  | _ => False
theorem tr_v (h : K d) : pTrV δ d K P2 := h
theorem tr_i (h : pp δ d (fun d1 => pj δ (trK d1 K) P2) P2) : pTrI pp pj δ d K P2 := h
theorem k_trl {N : List D → Prop} {es : List D} (h : N es) : trLK N (.lst es) := h
theorem k_trCt {ds : List D} {n : Int} {y : D} (e : atI ds n = some y) (h : K y) : trK (.tup ds) K (.int n) := by unfold trK; simp only; rw [e]; exact h
theorem k_tt1 {d0 d1 : D} {l : List D} (h : K d1) : trK (.tup (d0 :: d1 :: l)) K (.int 1) := k_trCt (by unfold atI ixN; rw [if_pos (by decide), if_pos (by simp only [List.length_cons]; omega)]; rfl) h
theorem k_trJ {α : Type} {f : α → D} {xs : List α} {j : Int} {N : Nat → Prop} (c : ixOk xs j) (h : N j.toNat) : trJ (List.map f xs) N (.int j) := by
  have h1 := c.1
  have h2 := c.2
  unfold trJ ixN
  simp only
  rw [List.length_map, if_pos (by omega), if_pos (by omega)]
  exact h
theorem w_trApp (hh : δ[i]? = some (some (.tree T d))) (h : pp δ d (trLK fun es => pe δ (fun x => es.length < szl ∧ trEnd up i T d es (es ++ [x]) P.nx δ) (P.ex δ)) (P.ex δ)) : pTrApp i up pp pe P δ := by
  unfold pTrApp
  rw [hh]
  exact h
theorem w_trSet (hh : δ[i]? = some (some (.tree T d))) (h : pe δ (fun x => pp δ d (trLK fun es => pk δ (trJ es fun n => trEnd up i T d es (es.set n x) P.nx δ) (P.ex δ)) (P.ex δ)) (P.ex δ)) : pTrSet i up pp pk pe P δ := by
  unfold pTrSet
  rw [hh]
  exact h
noncomputable def UpLL (a b : List Int) : List (List Int) → List (List Int) → Prop
  | [], [] => True
  | u :: us, v :: vs => (v = u ∨ (u = a ∧ v = b)) ∧ UpLL a b us vs
  | _, _ => False
theorem UpLL.refl {a b : List Int} : ∀ x : List (List Int), UpLL a b x x
  | [] => trivial
  | _ :: xs => ⟨.inl rfl, UpLL.refl xs⟩
theorem map_int_inj : ∀ {xs ys : List Int}, List.map D.int xs = List.map D.int ys → xs = ys
  | [], [], _ => rfl
  | [], _ :: _, h => by cases h
  | _ :: _, [], h => by cases h
  | x :: xs, y :: ys, h => by
    rw [List.map_cons, List.map_cons] at h
    injection h with h1 h2
    injection h1 with h1
    rw [h1, map_int_inj h2]
theorem updL_int {es es' : List D} : ∀ {a : List Int} {ds : List D}, UpdL es es' (List.map D.int a) ds → ds = List.map D.int a
  | [], _, h => by cases h; rfl
  | x :: xs, _, h => by
    rw [List.map_cons] at h
    cases h with
    | cons u t =>
      cases u
      rw [updL_int t]
      rfl
theorem ml_app {a : List Int} {z : Int} : List.map D.int a ++ [D.int z] = List.map D.int (a ++ [z]) := by rw [List.map_append]; rfl
theorem ml_set {a : List Int} {j : Int} {z : Int} : (List.map D.int a).set j.toNat (D.int z) = List.map D.int (st a j z) := by unfold st; rw [List.map_set]
end
end Pu
namespace Pu
end Pu
set_option Elab.async false
set_option linter.all false
set_option maxRecDepth 100000
set_option maxHeartbeats 2000000
set_option autoImplicit false
namespace Pu
open PySem PySem.Spec PyProof.Rows L2
noncomputable abbrev eRs (p : Str × List Int) : D := .tup (D.str p.1 :: List.map D.int p.2)
section
variable {α β : Type} {f : α → D} {g : β → D}
instance : VE eRs eRs := ⟨fun x => vq_tup (vql_cons rfl (vql_map _))⟩
instance : NoVs eRs := ⟨fun x => nv_tup (nvl_cons rfl (nvl_map _))⟩
instance : NoLs eRs := ⟨fun x => by show noL (.tup _) = true; unfold noL noLL; rw [noLL_map]; rfl⟩
instance : EInj eRs := ⟨fun a b e => by
  injection e with e
  injection e with e1 e2
  injection e1 with e1
  obtain ⟨a1, a2⟩ := a
  obtain ⟨b1, b2⟩ := b
  simp only at e1 e2
  rw [e1, map_int_inj e2]⟩
class ToRs (f : α → D) where
  r : α → Str × List Int
  h : ∀ x, f x = eRs (r x)
instance : ToRs eRs := ⟨id, fun _ => rfl⟩
instance : ToRs (eP1 D.str) := ⟨fun p => (p, []), fun _ => rfl⟩
instance : ToRs (eP2 D.str D.int) := ⟨fun p => (p.1, [p.2]), fun _ => rfl⟩
instance : ToRs (eP3 D.str D.int D.int) := ⟨fun p => (p.1, [p.2.1, p.2.2]), fun _ => rfl⟩
instance : ToRs (eP4 D.str D.int D.int D.int) := ⟨fun p => (p.1, [p.2.1, p.2.2.1, p.2.2.2]), fun _ => rfl⟩
instance : ToRs (eP5 D.str D.int D.int D.int D.int) := ⟨fun p => (p.1, [p.2.1, p.2.2.1, p.2.2.2.1, p.2.2.2.2]), fun _ => rfl⟩
variable {Q : D → Prop} {xs : List α} {ys : List β} {d d' : D} {ds : List D}
end
end Pu
set_option Elab.async false
set_option linter.all false
set_option maxRecDepth 100000
set_option maxHeartbeats 2000000
set_option autoImplicit false
namespace Pu
open PySem PySem.Spec PyProof.Rows L2
noncomputable def ssrt (ns : List Int) : List Int := srt ns.eraseDups
section
variable {α β γ ε ζ : Type} {f f' : α → D} {g g' : β → D} {h h' : γ → D} {i i' : ε → D} {j j' : ζ → D}
instance [VE f f'] : VE (eW1 f) (eW1 f') := ⟨fun x => vq_vw (vql_cons (vq _) vql_nil)⟩
instance [VE f f'] [VE g g'] : VE (eW2 f g) (eW2 f' g') := ⟨fun x => vq_vw (vql_cons (vq _) (vql_cons (vq _) vql_nil))⟩
instance [VE f f'] [VE g g'] [VE h h'] : VE (eW3 f g h) (eW3 f' g' h') := ⟨fun x => vq_vw (vql_cons (vq _) (vql_cons (vq _) (vql_cons (vq _) vql_nil)))⟩
instance [VE f f'] [VE g g'] [VE h h'] [VE i i'] : VE (eW4 f g h i) (eW4 f' g' h' i') := ⟨fun x => vq_vw (vql_cons (vq _) (vql_cons (vq _) (vql_cons (vq _) (vql_cons (vq _) vql_nil))))⟩
instance [VE f f'] [VE g g'] [VE h h'] [VE i i'] [VE j j'] : VE (eW5 f g h i j) (eW5 f' g' h' i' j') := ⟨fun x => vq_vw (vql_cons (vq _) (vql_cons (vq _) (vql_cons (vq _) (vql_cons (vq _) (vql_cons (vq _) vql_nil)))))⟩
end
noncomputable def mvK (N : List D → Prop) : D → Prop := fun d1 => match d1 with | .lst es => noLL es = true ∧ N es | _ => False
noncomputable def scK (Q : D → Prop) : List Int → Prop := fun ns => ns.length < 64 ∧ ∀ ns' : List Int, ns'.Pairwise (· < ·) → (∀ k, k ∈ ns' ↔ k ∈ ns) → Q (.lst (ns'.map .int))
noncomputable def srtP (ps : List (Int × Int)) : List (Int × Int) := ps.mergeSort fun p q => decide (p.1 * 1000 + p.2 ≤ q.1 * 1000 + q.2)
theorem srtP_perm (ps : List (Int × Int)) : (srtP ps).Perm ps := List.mergeSort_perm ps _
theorem srtP_sorted (ps : List (Int × Int)) : (srtP ps).Pairwise (fun p q => p.1 * 1000 + p.2 ≤ q.1 * 1000 + q.2) := by
  have := List.pairwise_mergeSort (le := fun p q : Int × Int => decide (p.1 * 1000 + p.2 ≤ q.1 * 1000 + q.2)) (fun a b c h1 h2 => by
    simp only [decide_eq_true_eq] at h1 h2 ⊢
    omega) (fun a b => by
    simp only [Bool.or_eq_true, decide_eq_true_eq]
    omega) ps
  exact this.imp (fun {a b} h => by simpa using h)
theorem y_srtP {ps : List (Int × Int)} {Q : D → Prop} (c : ps.length < 64 ∧ ∀ p ∈ ps, 0 ≤ p.2 ∧ p.2 < 1000) (h : Q (.lst (List.map (eP2 D.int D.int) (srtP ps)))) : fSortPr [.lst (List.map (eP2 D.int D.int) ps)] Q := by
  show (match prsD (ps.map ePr) with
    | some ps => ps.length < 64 ∧ (∀ p ∈ ps, 0 ≤ p.2 ∧ p.2 < 1000) ∧ ∀ qs : List (Int × Int), qs.Perm ps → qs.Pairwise (fun p q => p.1 * 1000 + p.2 ≤ q.1 * 1000 + q.2) → Q (.lst (qs.map ePr))
    | none => False)
  rw [prsD_map]
  refine ⟨c.1, c.2, fun qs h1 h2 => ?_⟩
  have e : qs = srtP ps := (h1.trans (srtP_perm ps).symm).eq_of_pairwise (fun a b ha hb x y => by
    have g1 := c.2 a (h1.mem_iff.mp ha)
    have g2 := c.2 b ((srtP_perm ps).mem_iff.mp hb)
    have e1 : a.1 = b.1 := by omega
    have e2 : a.2 = b.2 := by omega
    exact Prod.ext e1 e2) h2 (srtP_sorted ps)
  rw [e]
  exact h
end Pu
set_option Elab.async false
set_option linter.all false
set_option maxRecDepth 100000
set_option maxHeartbeats 2000000
set_option autoImplicit false
namespace Pu
open PySem PySem.Spec PyProof.Rows L2
noncomputable def eLt {α : Type} (f : α → D) : Bool × List α → D
  | (true, xs) => .tup (List.map f xs)
  | (false, xs) => .lst (List.map f xs)
noncomputable def fSlo (x : D) (lo hi : Option Int) (P : D → Prop) : Prop := match x with
  | .lst ds => P (.lst (cutD ds lo hi))
  | .vw ds => P (.lst (cutD ds lo hi))
  | _ => False
section
variable {α β : Type} {f : α → D} {g : β → D} {Q : D → Prop} {F : List D → Prop} {xs : List α} {ys : List β}
end
section
variable {P : PEnds} {δ : Dl} {pb ps : PSx} {f : Nat → Option Bool} {e : Exn}
end
section
variable {δ : Dl} {Q : D → Prop} {Q2 : Exn → Prop} {psp : PSpO} {pa : PAo} {pe po : PX} {F : List D → List D → Prop} {es : List D}
noncomputable def oneK (F : List D → List D → Prop) (d : D) : Prop := match d with | .lst es => F [] es | _ => False
end
end Pu
set_option Elab.async false
set_option linter.all false
set_option maxRecDepth 100000
set_option maxHeartbeats 2000000
set_option autoImplicit false
namespace Pu
open PySem PySem.Spec L2
noncomputable def rangeC (lo c : Int) (n : Nat) : List D := (List.range n).map fun (i : Nat) => D.int (lo + (i : Int) * c)
theorem rangeC_len {lo c : Int} {n : Nat} : (rangeC lo c n).length = n := by unfold rangeC; rw [List.length_map, List.length_range]
theorem rangeC_get {lo c : Int} {n i : Nat} (h : i < n) : (rangeC lo c n)[i]? = some (.int (lo + (i : Int) * c)) := by
  unfold rangeC
  rw [List.getElem?_map, List.getElem?_range h]
  rfl
section
variable {C : Ctx} {G : Gp}
theorem itd_rangeC {lo c : Int} {n : Nat} : ItD C G (Itc lo c n) (rangeC lo c n) := by
  refine ⟨_, _, by rw [rangeC_len]; exact walk_rangeC (lo := lo) (c := c) (n := n), fun _ _ _ _ => trivial, fun i G1 H1 x H2 hi k ok y => ?_⟩
  rw [rangeC_len] at hi
  obtain ⟨rfl, rfl⟩ := y
  exact ⟨_, G1, rangeC_get hi, .refl ok, .int _⟩
end
noncomputable def rgN (i j c : Int) : Nat := (PySem.Builtin.Range.rangeSize i j c).toNat
noncomputable def pRange3 (pe pf pg : PX) : PLx := fun δ P P2 => pe δ (fun d => pf δ (fun e => pg δ (fun f => match d, e, f with | .int i, .int j, .int c => RgC i j c (rgN i j c) ∧ P (rangeC i c (rgN i j c)) | _, _, _ => False) P2) P2) P2
section
variable {X : Cx} {E : L2.St → XK}
theorem li_range3 {tg e f g : Expr} {te tf tg' : TE} {pe pf pg : PX} {p pos : Pos} (hg : Gl X "range") (hm : X.mg "range" = none) (he : LX X E e te pe) (hf : LX X E f tf pf) (hh : LX X E g tg' pg)
    (hs : starEach [e, f, g] X.env = (false, eval e X.env) :: starEach [f, g] X.env := by rfl) (hs2 : starEach [f, g] X.env = (false, eval f X.env) :: starEach [g] X.env := by rfl) (hs3 : starEach [g] X.env = (false, eval g X.env) :: starEach [] X.env := by rfl)
    (hpl : (backTo pos (starEach [f, g] X.env)).any (·.1) = false := by rfl) :
    LI X E tg (.Call (.Name "range" p) [e, f, g] [] pos) (iRng3 (tCons te (tCons tf (tCons tg' tNil)))) (pRange3 pe pf pg) := by
  refine ⟨pi_range3 hg hm (pa_cons he.py (pa_cons hf.py (pa_cons hh.py pa_nil hs3) hs2) hs) hs hpl, fun {δ σ G H H0 Q P P2} k s x p q => he.le k s x p fun v d G' H' y r p' => ?_⟩
  refine hf.le y.ok (s.ext y) (x.ext y) p' fun v2 d2 G2 H2 y2 r2 p2 => ?_
  refine hh.le y2.ok ((s.ext y).ext y2) ((x.ext y).ext y2) p2 fun v3 d3 G3 H3 y3 r3 p3 => ?_
  split at p3
  · obtain rfl := r.intR
    obtain rfl := r2.intR
    obtain rfl := r3.intR
    exact ⟨_, _, _, _, rfl, p3.1, q _ _ _ _ ((y.trans y2).trans y3) itd_rangeC p3.2⟩
  · exact p3.elim
end
noncomputable def rgc (i j c : Int) : List Int := (List.range (rgN i j c)).map fun (k : Nat) => i + (k : Int) * c
noncomputable abbrev RgK (i j c : Int) : Prop := RgC i j c (rgN i j c)
theorem rgc_D {i j c : Int} : rangeC i c (rgN i j c) = List.map D.int (rgc i j c) := by
  unfold rangeC rgc
  rw [List.map_map]
  rfl
theorem rgN_down {i j : Int} : rgN i j (-1) = (i - j).toNat := by
  unfold rgN
  rw [PySem.W.rangeSize_downNat]
  exact Int.toNat_natCast _
theorem RgK.down {i j : Int} (ha : b62 i) (hb : b62 j) : RgK i j (-1) := by
  unfold RgK
  rw [rgN_down]
  exact RgC.neg ha.1 ha.2 hb.1 hb.2
noncomputable def rg3K (QL : List D → Prop) (i j : D) : D → Prop := fun d => match i, j, d with | .int i, .int j, .int c => RgC i j c (rgN i j c) ∧ QL (rangeC i c (rgN i j c)) | _, _, _ => False
section
variable {δ : Dl} {pe pf pg : PX} {QL : List D → Prop} {Q2 : Exn → Prop} {i j c : Int}
theorem y_rg3 (he : ∀ Q : D → Prop, Q (.int i) → pe δ Q Q2) (hf : ∀ Q : D → Prop, Q (.int j) → pf δ Q Q2) (hg : ∀ Q : D → Prop, Q (.int c) → pg δ Q Q2) (s : RgK i j c) (h : QL (List.map D.int (rgc i j c))) : pRange3 pe pf pg δ QL Q2 := he _ (hf _ (hg _ ⟨s, by
  rw [← rgc_D] at h
  exact h⟩))
end
noncomputable def pNevX : PX := fun _ _ _ => False
theorem lx_never {X : Cx} {E : L2.St → XK} {e : Expr} : LX X E e (fun _ _ _ => False) pNevX := ⟨⟨fun _ _ _ _ _ _ h => h.elim⟩, fun _ _ _ p _ => p.elim⟩
theorem e_nev {δ : Dl} {Q : D → Prop} {Q2 : Exn → Prop} {d : D} (s : False) (_ : Q d) : pNevX δ Q Q2 := s.elim
section
variable {i : Nat} {T : Addr → Prop} {nx : Dl → Prop} {δ : Dl}
theorem k_trTL {w : Str} {x a b : List Int} {es es' : List D} (e1 : es = List.map D.int a) (e2 : es' = List.map D.int b) (h : ∀ x', (x' = x ∨ x' = b) → nx (δ.set i (some (.tree T (eP2 D.str (eL D.int) (w, x')))))) : trEnd true i T (eP2 D.str (eL D.int) (w, x)) es es' nx δ := by
  unfold trEnd
  rw [if_pos rfl]
  subst e1 e2
  refine ⟨by rw [List.all_map, List.all_eq_true]; intro _ _; rfl, by rw [List.all_map, List.all_eq_true]; intro _ _; rfl, nv (f := eP2 D.str (eL D.int)) (w, x), fun d2 u => ?_⟩
  generalize hd : (eP2 D.str (eL D.int)) (w, x) = dd at u
  cases u with
  | same => rw [← hd]; exact h x (.inl rfl)
  | hit => cases hd
  | lst w => cases hd
  | obj w => cases hd
  | tup u =>
    rename_i ds ds'
    have e : [D.str w, .lst (List.map D.int x)] = ds := by injection hd
    subst e
    cases u with
    | cons u1 u =>
      cases u with
      | cons u2 u =>
        cases u
        cases u1
        generalize hx : D.lst (List.map D.int x) = dx at u2
        cases u2 with
        | same => rw [← hx]; exact h x (.inl rfl)
        | hit => exact h b (.inr rfl)
        | lst u =>
          rename_i f1 f2
          have e : List.map D.int x = f1 := by injection hx
          subst e
          rw [updL_int u]
          exact h x (.inl rfl)
        | tup u => cases hx
        | obj u => cases hx
end
end Pu
set_option Elab.async false
set_option linter.all false
set_option maxRecDepth 100000
set_option autoImplicit false
namespace Pu
open PySem PySem.Spec PyProof.Rows L2
theorem e_v0 {l : Dl} {d : D} {Q : D → Prop} {Q2 : Exn → Prop} (h : Q d) : pVar 0 (some (.d d) :: l) Q Q2 := h
theorem e_v1 {x0 : Option S} {l : Dl} {d : D} {Q : D → Prop} {Q2 : Exn → Prop} (h : Q d) : pVar 1 (x0 :: some (.d d) :: l) Q Q2 := h
theorem e_v2 {x0 x1 : Option S} {l : Dl} {d : D} {Q : D → Prop} {Q2 : Exn → Prop} (h : Q d) : pVar 2 (x0 :: x1 :: some (.d d) :: l) Q Q2 := h
theorem e_v3 {x0 x1 x2 : Option S} {l : Dl} {d : D} {Q : D → Prop} {Q2 : Exn → Prop} (h : Q d) : pVar 3 (x0 :: x1 :: x2 :: some (.d d) :: l) Q Q2 := h
theorem e_v4 {x0 x1 x2 x3 : Option S} {l : Dl} {d : D} {Q : D → Prop} {Q2 : Exn → Prop} (h : Q d) : pVar 4 (x0 :: x1 :: x2 :: x3 :: some (.d d) :: l) Q Q2 := h
theorem e_v5 {x0 x1 x2 x3 x4 : Option S} {l : Dl} {d : D} {Q : D → Prop} {Q2 : Exn → Prop} (h : Q d) : pVar 5 (x0 :: x1 :: x2 :: x3 :: x4 :: some (.d d) :: l) Q Q2 := h
theorem e_v6 {x0 x1 x2 x3 x4 x5 : Option S} {l : Dl} {d : D} {Q : D → Prop} {Q2 : Exn → Prop} (h : Q d) : pVar 6 (x0 :: x1 :: x2 :: x3 :: x4 :: x5 :: some (.d d) :: l) Q Q2 := h
theorem e_v7 {x0 x1 x2 x3 x4 x5 x6 : Option S} {l : Dl} {d : D} {Q : D → Prop} {Q2 : Exn → Prop} (h : Q d) : pVar 7 (x0 :: x1 :: x2 :: x3 :: x4 :: x5 :: x6 :: some (.d d) :: l) Q Q2 := h
theorem e_v8 {x0 x1 x2 x3 x4 x5 x6 x7 : Option S} {l : Dl} {d : D} {Q : D → Prop} {Q2 : Exn → Prop} (h : Q d) : pVar 8 (x0 :: x1 :: x2 :: x3 :: x4 :: x5 :: x6 :: x7 :: some (.d d) :: l) Q Q2 := h
theorem e_v9 {x0 x1 x2 x3 x4 x5 x6 x7 x8 : Option S} {l : Dl} {d : D} {Q : D → Prop} {Q2 : Exn → Prop} (h : Q d) : pVar 9 (x0 :: x1 :: x2 :: x3 :: x4 :: x5 :: x6 :: x7 :: x8 :: some (.d d) :: l) Q Q2 := h
theorem e_v10 {x0 x1 x2 x3 x4 x5 x6 x7 x8 x9 : Option S} {l : Dl} {d : D} {Q : D → Prop} {Q2 : Exn → Prop} (h : Q d) : pVar 10 (x0 :: x1 :: x2 :: x3 :: x4 :: x5 :: x6 :: x7 :: x8 :: x9 :: some (.d d) :: l) Q Q2 := h
theorem e_v11 {x0 x1 x2 x3 x4 x5 x6 x7 x8 x9 x10 : Option S} {l : Dl} {d : D} {Q : D → Prop} {Q2 : Exn → Prop} (h : Q d) : pVar 11 (x0 :: x1 :: x2 :: x3 :: x4 :: x5 :: x6 :: x7 :: x8 :: x9 :: x10 :: some (.d d) :: l) Q Q2 := h
theorem e_v12 {x0 x1 x2 x3 x4 x5 x6 x7 x8 x9 x10 x11 : Option S} {l : Dl} {d : D} {Q : D → Prop} {Q2 : Exn → Prop} (h : Q d) : pVar 12 (x0 :: x1 :: x2 :: x3 :: x4 :: x5 :: x6 :: x7 :: x8 :: x9 :: x10 :: x11 :: some (.d d) :: l) Q Q2 := h
theorem e_vo1 {x0 : Option S} {l : Dl} {oa : Option Addr} {ds : List D} {Q : D → Prop} {Q2 : Exn → Prop} (h : Q (.lst ds)) : pVarV 1 (x0 :: some (.own oa ds) :: l) Q Q2 := h
theorem e_vo2 {x0 x1 : Option S} {l : Dl} {oa : Option Addr} {ds : List D} {Q : D → Prop} {Q2 : Exn → Prop} (h : Q (.lst ds)) : pVarV 2 (x0 :: x1 :: some (.own oa ds) :: l) Q Q2 := h
theorem e_vo4 {x0 x1 x2 x3 : Option S} {l : Dl} {oa : Option Addr} {ds : List D} {Q : D → Prop} {Q2 : Exn → Prop} (h : Q (.lst ds)) : pVarV 4 (x0 :: x1 :: x2 :: x3 :: some (.own oa ds) :: l) Q Q2 := h
theorem e_vo5 {x0 x1 x2 x3 x4 : Option S} {l : Dl} {oa : Option Addr} {ds : List D} {Q : D → Prop} {Q2 : Exn → Prop} (h : Q (.lst ds)) : pVarV 5 (x0 :: x1 :: x2 :: x3 :: x4 :: some (.own oa ds) :: l) Q Q2 := h
theorem e_vo6 {x0 x1 x2 x3 x4 x5 : Option S} {l : Dl} {oa : Option Addr} {ds : List D} {Q : D → Prop} {Q2 : Exn → Prop} (h : Q (.lst ds)) : pVarV 6 (x0 :: x1 :: x2 :: x3 :: x4 :: x5 :: some (.own oa ds) :: l) Q Q2 := h
theorem w_as1 {x0 : Option S} {l : Dl} {y : Option S} {P : PEnds} {pe : PX} (h : pe (x0 :: y :: l) (fun d => P.nx (x0 :: some (.d d) :: l)) (P.ex (x0 :: y :: l))) : pAsg pe 1 P (x0 :: y :: l) := h
theorem w_as2 {x0 x1 : Option S} {l : Dl} {y : Option S} {P : PEnds} {pe : PX} (h : pe (x0 :: x1 :: y :: l) (fun d => P.nx (x0 :: x1 :: some (.d d) :: l)) (P.ex (x0 :: x1 :: y :: l))) : pAsg pe 2 P (x0 :: x1 :: y :: l) := h
theorem w_as3 {x0 x1 x2 : Option S} {l : Dl} {y : Option S} {P : PEnds} {pe : PX} (h : pe (x0 :: x1 :: x2 :: y :: l) (fun d => P.nx (x0 :: x1 :: x2 :: some (.d d) :: l)) (P.ex (x0 :: x1 :: x2 :: y :: l))) : pAsg pe 3 P (x0 :: x1 :: x2 :: y :: l) := h
theorem w_as4 {x0 x1 x2 x3 : Option S} {l : Dl} {y : Option S} {P : PEnds} {pe : PX} (h : pe (x0 :: x1 :: x2 :: x3 :: y :: l) (fun d => P.nx (x0 :: x1 :: x2 :: x3 :: some (.d d) :: l)) (P.ex (x0 :: x1 :: x2 :: x3 :: y :: l))) : pAsg pe 4 P (x0 :: x1 :: x2 :: x3 :: y :: l) := h
theorem w_as5 {x0 x1 x2 x3 x4 : Option S} {l : Dl} {y : Option S} {P : PEnds} {pe : PX} (h : pe (x0 :: x1 :: x2 :: x3 :: x4 :: y :: l) (fun d => P.nx (x0 :: x1 :: x2 :: x3 :: x4 :: some (.d d) :: l)) (P.ex (x0 :: x1 :: x2 :: x3 :: x4 :: y :: l))) : pAsg pe 5 P (x0 :: x1 :: x2 :: x3 :: x4 :: y :: l) := h
theorem w_as6 {x0 x1 x2 x3 x4 x5 : Option S} {l : Dl} {y : Option S} {P : PEnds} {pe : PX} (h : pe (x0 :: x1 :: x2 :: x3 :: x4 :: x5 :: y :: l) (fun d => P.nx (x0 :: x1 :: x2 :: x3 :: x4 :: x5 :: some (.d d) :: l)) (P.ex (x0 :: x1 :: x2 :: x3 :: x4 :: x5 :: y :: l))) : pAsg pe 6 P (x0 :: x1 :: x2 :: x3 :: x4 :: x5 :: y :: l) := h
theorem w_as7 {x0 x1 x2 x3 x4 x5 x6 : Option S} {l : Dl} {y : Option S} {P : PEnds} {pe : PX} (h : pe (x0 :: x1 :: x2 :: x3 :: x4 :: x5 :: x6 :: y :: l) (fun d => P.nx (x0 :: x1 :: x2 :: x3 :: x4 :: x5 :: x6 :: some (.d d) :: l)) (P.ex (x0 :: x1 :: x2 :: x3 :: x4 :: x5 :: x6 :: y :: l))) : pAsg pe 7 P (x0 :: x1 :: x2 :: x3 :: x4 :: x5 :: x6 :: y :: l) := h
theorem w_as8 {x0 x1 x2 x3 x4 x5 x6 x7 : Option S} {l : Dl} {y : Option S} {P : PEnds} {pe : PX} (h : pe (x0 :: x1 :: x2 :: x3 :: x4 :: x5 :: x6 :: x7 :: y :: l) (fun d => P.nx (x0 :: x1 :: x2 :: x3 :: x4 :: x5 :: x6 :: x7 :: some (.d d) :: l)) (P.ex (x0 :: x1 :: x2 :: x3 :: x4 :: x5 :: x6 :: x7 :: y :: l))) : pAsg pe 8 P (x0 :: x1 :: x2 :: x3 :: x4 :: x5 :: x6 :: x7 :: y :: l) := h
theorem w_as9 {x0 x1 x2 x3 x4 x5 x6 x7 x8 : Option S} {l : Dl} {y : Option S} {P : PEnds} {pe : PX} (h : pe (x0 :: x1 :: x2 :: x3 :: x4 :: x5 :: x6 :: x7 :: x8 :: y :: l) (fun d => P.nx (x0 :: x1 :: x2 :: x3 :: x4 :: x5 :: x6 :: x7 :: x8 :: some (.d d) :: l)) (P.ex (x0 :: x1 :: x2 :: x3 :: x4 :: x5 :: x6 :: x7 :: x8 :: y :: l))) : pAsg pe 9 P (x0 :: x1 :: x2 :: x3 :: x4 :: x5 :: x6 :: x7 :: x8 :: y :: l) := h
theorem w_as11 {x0 x1 x2 x3 x4 x5 x6 x7 x8 x9 x10 : Option S} {l : Dl} {y : Option S} {P : PEnds} {pe : PX} (h : pe (x0 :: x1 :: x2 :: x3 :: x4 :: x5 :: x6 :: x7 :: x8 :: x9 :: x10 :: y :: l) (fun d => P.nx (x0 :: x1 :: x2 :: x3 :: x4 :: x5 :: x6 :: x7 :: x8 :: x9 :: x10 :: some (.d d) :: l)) (P.ex (x0 :: x1 :: x2 :: x3 :: x4 :: x5 :: x6 :: x7 :: x8 :: x9 :: x10 :: y :: l))) : pAsg pe 11 P (x0 :: x1 :: x2 :: x3 :: x4 :: x5 :: x6 :: x7 :: x8 :: x9 :: x10 :: y :: l) := h
theorem w_as12 {x0 x1 x2 x3 x4 x5 x6 x7 x8 x9 x10 x11 : Option S} {l : Dl} {y : Option S} {P : PEnds} {pe : PX} (h : pe (x0 :: x1 :: x2 :: x3 :: x4 :: x5 :: x6 :: x7 :: x8 :: x9 :: x10 :: x11 :: y :: l) (fun d => P.nx (x0 :: x1 :: x2 :: x3 :: x4 :: x5 :: x6 :: x7 :: x8 :: x9 :: x10 :: x11 :: some (.d d) :: l)) (P.ex (x0 :: x1 :: x2 :: x3 :: x4 :: x5 :: x6 :: x7 :: x8 :: x9 :: x10 :: x11 :: y :: l))) : pAsg pe 12 P (x0 :: x1 :: x2 :: x3 :: x4 :: x5 :: x6 :: x7 :: x8 :: x9 :: x10 :: x11 :: y :: l) := h
theorem w_ao1 {x0 : Option S} {l : Dl} {y : Option S} {P : PEnds} {pe : PX} (h : pe (x0 :: y :: l) (aoK fun ds => P.nx (x0 :: some (.own none ds) :: l)) (P.ex (x0 :: y :: l))) : pAsgO pe 1 P (x0 :: y :: l) := h
theorem w_ao2 {x0 x1 : Option S} {l : Dl} {y : Option S} {P : PEnds} {pe : PX} (h : pe (x0 :: x1 :: y :: l) (aoK fun ds => P.nx (x0 :: x1 :: some (.own none ds) :: l)) (P.ex (x0 :: x1 :: y :: l))) : pAsgO pe 2 P (x0 :: x1 :: y :: l) := h
theorem w_ao3 {x0 x1 x2 : Option S} {l : Dl} {y : Option S} {P : PEnds} {pe : PX} (h : pe (x0 :: x1 :: x2 :: y :: l) (aoK fun ds => P.nx (x0 :: x1 :: x2 :: some (.own none ds) :: l)) (P.ex (x0 :: x1 :: x2 :: y :: l))) : pAsgO pe 3 P (x0 :: x1 :: x2 :: y :: l) := h
theorem w_ao4 {x0 x1 x2 x3 : Option S} {l : Dl} {y : Option S} {P : PEnds} {pe : PX} (h : pe (x0 :: x1 :: x2 :: x3 :: y :: l) (aoK fun ds => P.nx (x0 :: x1 :: x2 :: x3 :: some (.own none ds) :: l)) (P.ex (x0 :: x1 :: x2 :: x3 :: y :: l))) : pAsgO pe 4 P (x0 :: x1 :: x2 :: x3 :: y :: l) := h
theorem w_ao6 {x0 x1 x2 x3 x4 x5 : Option S} {l : Dl} {y : Option S} {P : PEnds} {pe : PX} (h : pe (x0 :: x1 :: x2 :: x3 :: x4 :: x5 :: y :: l) (aoK fun ds => P.nx (x0 :: x1 :: x2 :: x3 :: x4 :: x5 :: some (.own none ds) :: l)) (P.ex (x0 :: x1 :: x2 :: x3 :: x4 :: x5 :: y :: l))) : pAsgO pe 6 P (x0 :: x1 :: x2 :: x3 :: x4 :: x5 :: y :: l) := h
theorem w_ao7 {x0 x1 x2 x3 x4 x5 x6 : Option S} {l : Dl} {y : Option S} {P : PEnds} {pe : PX} (h : pe (x0 :: x1 :: x2 :: x3 :: x4 :: x5 :: x6 :: y :: l) (aoK fun ds => P.nx (x0 :: x1 :: x2 :: x3 :: x4 :: x5 :: x6 :: some (.own none ds) :: l)) (P.ex (x0 :: x1 :: x2 :: x3 :: x4 :: x5 :: x6 :: y :: l))) : pAsgO pe 7 P (x0 :: x1 :: x2 :: x3 :: x4 :: x5 :: x6 :: y :: l) := h
theorem w_fz1 {x0 : Option S} {l : Dl} {oa : Option Addr} {ds : List D} {P : PEnds} {ps : PSx} (h : ps P (x0 :: some (.d (.lst ds)) :: l)) : pFreeze 1 ps P (x0 :: some (.own oa ds) :: l) := h
theorem w_fz2 {x0 x1 : Option S} {l : Dl} {oa : Option Addr} {ds : List D} {P : PEnds} {ps : PSx} (h : ps P (x0 :: x1 :: some (.d (.lst ds)) :: l)) : pFreeze 2 ps P (x0 :: x1 :: some (.own oa ds) :: l) := h
theorem w_fz3 {x0 x1 x2 : Option S} {l : Dl} {oa : Option Addr} {ds : List D} {P : PEnds} {ps : PSx} (h : ps P (x0 :: x1 :: x2 :: some (.d (.lst ds)) :: l)) : pFreeze 3 ps P (x0 :: x1 :: x2 :: some (.own oa ds) :: l) := h
theorem w_fz4 {x0 x1 x2 x3 : Option S} {l : Dl} {oa : Option Addr} {ds : List D} {P : PEnds} {ps : PSx} (h : ps P (x0 :: x1 :: x2 :: x3 :: some (.d (.lst ds)) :: l)) : pFreeze 4 ps P (x0 :: x1 :: x2 :: x3 :: some (.own oa ds) :: l) := h
theorem w_fz5 {x0 x1 x2 x3 x4 : Option S} {l : Dl} {oa : Option Addr} {ds : List D} {P : PEnds} {ps : PSx} (h : ps P (x0 :: x1 :: x2 :: x3 :: x4 :: some (.d (.lst ds)) :: l)) : pFreeze 5 ps P (x0 :: x1 :: x2 :: x3 :: x4 :: some (.own oa ds) :: l) := h
theorem w_fz6 {x0 x1 x2 x3 x4 x5 : Option S} {l : Dl} {oa : Option Addr} {ds : List D} {P : PEnds} {ps : PSx} (h : ps P (x0 :: x1 :: x2 :: x3 :: x4 :: x5 :: some (.d (.lst ds)) :: l)) : pFreeze 6 ps P (x0 :: x1 :: x2 :: x3 :: x4 :: x5 :: some (.own oa ds) :: l) := h
theorem w_fz7 {x0 x1 x2 x3 x4 x5 x6 : Option S} {l : Dl} {oa : Option Addr} {ds : List D} {P : PEnds} {ps : PSx} (h : ps P (x0 :: x1 :: x2 :: x3 :: x4 :: x5 :: x6 :: some (.d (.lst ds)) :: l)) : pFreeze 7 ps P (x0 :: x1 :: x2 :: x3 :: x4 :: x5 :: x6 :: some (.own oa ds) :: l) := h
theorem w_ap3 {x0 x1 x2 : Option S} {l : Dl} {oa : Option Addr} {ds : List D} {P : PEnds} {pe : PX} (h : pe (x0 :: x1 :: x2 :: some (.own oa ds) :: l) (appK ds fun es => P.nx (x0 :: x1 :: x2 :: some (.own oa es) :: l)) (P.ex (x0 :: x1 :: x2 :: some (.own oa ds) :: l))) : pApp 3 pe P (x0 :: x1 :: x2 :: some (.own oa ds) :: l) := h
theorem w_in4 {x0 x1 x2 x3 : Option S} {l : Dl} {oa : Option Addr} {ds : List D} {P : PEnds} {pe : PX} {pk : PX} (h : pk (x0 :: x1 :: x2 :: x3 :: some (.own oa ds) :: l) (fun k => pe (x0 :: x1 :: x2 :: x3 :: some (.own oa ds) :: l) (insK ds (fun es => P.nx (x0 :: x1 :: x2 :: x3 :: some (.own oa es) :: l)) k) (P.ex (x0 :: x1 :: x2 :: x3 :: some (.own oa ds) :: l))) (P.ex (x0 :: x1 :: x2 :: x3 :: some (.own oa ds) :: l))) : pIns 4 pk pe P (x0 :: x1 :: x2 :: x3 :: some (.own oa ds) :: l) := w_insK rfl h
theorem w_in6 {x0 x1 x2 x3 x4 x5 : Option S} {l : Dl} {oa : Option Addr} {ds : List D} {P : PEnds} {pe : PX} {pk : PX} (h : pk (x0 :: x1 :: x2 :: x3 :: x4 :: x5 :: some (.own oa ds) :: l) (fun k => pe (x0 :: x1 :: x2 :: x3 :: x4 :: x5 :: some (.own oa ds) :: l) (insK ds (fun es => P.nx (x0 :: x1 :: x2 :: x3 :: x4 :: x5 :: some (.own oa es) :: l)) k) (P.ex (x0 :: x1 :: x2 :: x3 :: x4 :: x5 :: some (.own oa ds) :: l))) (P.ex (x0 :: x1 :: x2 :: x3 :: x4 :: x5 :: some (.own oa ds) :: l))) : pIns 6 pk pe P (x0 :: x1 :: x2 :: x3 :: x4 :: x5 :: some (.own oa ds) :: l) := w_insK rfl h
theorem w_si1 {x0 : Option S} {l : Dl} {oa : Option Addr} {ds : List D} {P : PEnds} {pe : PX} {pk : PX} (h : pe (x0 :: some (.own oa ds) :: l) (fun d => pk (x0 :: some (.own oa ds) :: l) (ixSet ds d fun es => P.nx (x0 :: some (.own oa es) :: l)) (P.ex (x0 :: some (.own oa ds) :: l))) (P.ex (x0 :: some (.own oa ds) :: l))) : pSetI 1 pk pe P (x0 :: some (.own oa ds) :: l) := w_setO rfl h
theorem w_si2 {x0 x1 : Option S} {l : Dl} {oa : Option Addr} {ds : List D} {P : PEnds} {pe : PX} {pk : PX} (h : pe (x0 :: x1 :: some (.own oa ds) :: l) (fun d => pk (x0 :: x1 :: some (.own oa ds) :: l) (ixSet ds d fun es => P.nx (x0 :: x1 :: some (.own oa es) :: l)) (P.ex (x0 :: x1 :: some (.own oa ds) :: l))) (P.ex (x0 :: x1 :: some (.own oa ds) :: l))) : pSetI 2 pk pe P (x0 :: x1 :: some (.own oa ds) :: l) := w_setO rfl h
theorem w_si5 {x0 x1 x2 x3 x4 : Option S} {l : Dl} {oa : Option Addr} {ds : List D} {P : PEnds} {pe : PX} {pk : PX} (h : pe (x0 :: x1 :: x2 :: x3 :: x4 :: some (.own oa ds) :: l) (fun d => pk (x0 :: x1 :: x2 :: x3 :: x4 :: some (.own oa ds) :: l) (ixSet ds d fun es => P.nx (x0 :: x1 :: x2 :: x3 :: x4 :: some (.own oa es) :: l)) (P.ex (x0 :: x1 :: x2 :: x3 :: x4 :: some (.own oa ds) :: l))) (P.ex (x0 :: x1 :: x2 :: x3 :: x4 :: some (.own oa ds) :: l))) : pSetI 5 pk pe P (x0 :: x1 :: x2 :: x3 :: x4 :: some (.own oa ds) :: l) := w_setO rfl h
theorem w_si6 {x0 x1 x2 x3 x4 x5 : Option S} {l : Dl} {oa : Option Addr} {ds : List D} {P : PEnds} {pe : PX} {pk : PX} (h : pe (x0 :: x1 :: x2 :: x3 :: x4 :: x5 :: some (.own oa ds) :: l) (fun d => pk (x0 :: x1 :: x2 :: x3 :: x4 :: x5 :: some (.own oa ds) :: l) (ixSet ds d fun es => P.nx (x0 :: x1 :: x2 :: x3 :: x4 :: x5 :: some (.own oa es) :: l)) (P.ex (x0 :: x1 :: x2 :: x3 :: x4 :: x5 :: some (.own oa ds) :: l))) (P.ex (x0 :: x1 :: x2 :: x3 :: x4 :: x5 :: some (.own oa ds) :: l))) : pSetI 6 pk pe P (x0 :: x1 :: x2 :: x3 :: x4 :: x5 :: some (.own oa ds) :: l) := w_setO rfl h
theorem w_si7 {x0 x1 x2 x3 x4 x5 x6 : Option S} {l : Dl} {oa : Option Addr} {ds : List D} {P : PEnds} {pe : PX} {pk : PX} (h : pe (x0 :: x1 :: x2 :: x3 :: x4 :: x5 :: x6 :: some (.own oa ds) :: l) (fun d => pk (x0 :: x1 :: x2 :: x3 :: x4 :: x5 :: x6 :: some (.own oa ds) :: l) (ixSet ds d fun es => P.nx (x0 :: x1 :: x2 :: x3 :: x4 :: x5 :: x6 :: some (.own oa es) :: l)) (P.ex (x0 :: x1 :: x2 :: x3 :: x4 :: x5 :: x6 :: some (.own oa ds) :: l))) (P.ex (x0 :: x1 :: x2 :: x3 :: x4 :: x5 :: x6 :: some (.own oa ds) :: l))) : pSetI 7 pk pe P (x0 :: x1 :: x2 :: x3 :: x4 :: x5 :: x6 :: some (.own oa ds) :: l) := w_setO rfl h
theorem w_ex4 {x0 x1 x2 x3 : Option S} {l : Dl} {oa : Option Addr} {ds : List D} {P : PEnds} {pe : PX} (h : pe (x0 :: x1 :: x2 :: x3 :: some (.own oa ds) :: l) (extK ds fun es => P.nx (x0 :: x1 :: x2 :: x3 :: some (.own oa es) :: l)) (P.ex (x0 :: x1 :: x2 :: x3 :: some (.own oa ds) :: l))) : pExt 4 pe P (x0 :: x1 :: x2 :: x3 :: some (.own oa ds) :: l) := w_ext rfl h
theorem g_n1 {x0 : Option S} {l : Dl} {y : Option S} {d : D} {K : Dl → Prop} (h : K (x0 :: some (.d d) :: l)) : pgName 1 d (x0 :: y :: l) K := h
theorem g_n2 {x0 x1 : Option S} {l : Dl} {y : Option S} {d : D} {K : Dl → Prop} (h : K (x0 :: x1 :: some (.d d) :: l)) : pgName 2 d (x0 :: x1 :: y :: l) K := h
theorem g_n3 {x0 x1 x2 : Option S} {l : Dl} {y : Option S} {d : D} {K : Dl → Prop} (h : K (x0 :: x1 :: x2 :: some (.d d) :: l)) : pgName 3 d (x0 :: x1 :: x2 :: y :: l) K := h
theorem g_n4 {x0 x1 x2 x3 : Option S} {l : Dl} {y : Option S} {d : D} {K : Dl → Prop} (h : K (x0 :: x1 :: x2 :: x3 :: some (.d d) :: l)) : pgName 4 d (x0 :: x1 :: x2 :: x3 :: y :: l) K := h
theorem g_n5 {x0 x1 x2 x3 x4 : Option S} {l : Dl} {y : Option S} {d : D} {K : Dl → Prop} (h : K (x0 :: x1 :: x2 :: x3 :: x4 :: some (.d d) :: l)) : pgName 5 d (x0 :: x1 :: x2 :: x3 :: x4 :: y :: l) K := h
theorem g_n6 {x0 x1 x2 x3 x4 x5 : Option S} {l : Dl} {y : Option S} {d : D} {K : Dl → Prop} (h : K (x0 :: x1 :: x2 :: x3 :: x4 :: x5 :: some (.d d) :: l)) : pgName 6 d (x0 :: x1 :: x2 :: x3 :: x4 :: x5 :: y :: l) K := h
theorem g_n7 {x0 x1 x2 x3 x4 x5 x6 : Option S} {l : Dl} {y : Option S} {d : D} {K : Dl → Prop} (h : K (x0 :: x1 :: x2 :: x3 :: x4 :: x5 :: x6 :: some (.d d) :: l)) : pgName 7 d (x0 :: x1 :: x2 :: x3 :: x4 :: x5 :: x6 :: y :: l) K := h
theorem g_n8 {x0 x1 x2 x3 x4 x5 x6 x7 : Option S} {l : Dl} {y : Option S} {d : D} {K : Dl → Prop} (h : K (x0 :: x1 :: x2 :: x3 :: x4 :: x5 :: x6 :: x7 :: some (.d d) :: l)) : pgName 8 d (x0 :: x1 :: x2 :: x3 :: x4 :: x5 :: x6 :: x7 :: y :: l) K := h
theorem g_n9 {x0 x1 x2 x3 x4 x5 x6 x7 x8 : Option S} {l : Dl} {y : Option S} {d : D} {K : Dl → Prop} (h : K (x0 :: x1 :: x2 :: x3 :: x4 :: x5 :: x6 :: x7 :: x8 :: some (.d d) :: l)) : pgName 9 d (x0 :: x1 :: x2 :: x3 :: x4 :: x5 :: x6 :: x7 :: x8 :: y :: l) K := h
theorem g_n10 {x0 x1 x2 x3 x4 x5 x6 x7 x8 x9 : Option S} {l : Dl} {y : Option S} {d : D} {K : Dl → Prop} (h : K (x0 :: x1 :: x2 :: x3 :: x4 :: x5 :: x6 :: x7 :: x8 :: x9 :: some (.d d) :: l)) : pgName 10 d (x0 :: x1 :: x2 :: x3 :: x4 :: x5 :: x6 :: x7 :: x8 :: x9 :: y :: l) K := h
theorem gen_d2 {x0 x1 : Option S} {l : Dl} {α : Type} {a : α} {k : α → Prop} {N : Dl → Prop} (f : α → D) (h : bnd a k) (hk : ∀ x, k x → N (x0 :: x1 :: some (.d (f x)) :: l)) : N (x0 :: x1 :: some (.d (f a)) :: l) := hk a h
theorem gen_d3 {x0 x1 x2 : Option S} {l : Dl} {α : Type} {a : α} {k : α → Prop} {N : Dl → Prop} (f : α → D) (h : bnd a k) (hk : ∀ x, k x → N (x0 :: x1 :: x2 :: some (.d (f x)) :: l)) : N (x0 :: x1 :: x2 :: some (.d (f a)) :: l) := hk a h
theorem gen_d4 {x0 x1 x2 x3 : Option S} {l : Dl} {α : Type} {a : α} {k : α → Prop} {N : Dl → Prop} (f : α → D) (h : bnd a k) (hk : ∀ x, k x → N (x0 :: x1 :: x2 :: x3 :: some (.d (f x)) :: l)) : N (x0 :: x1 :: x2 :: x3 :: some (.d (f a)) :: l) := hk a h
theorem gen_d5 {x0 x1 x2 x3 x4 : Option S} {l : Dl} {α : Type} {a : α} {k : α → Prop} {N : Dl → Prop} (f : α → D) (h : bnd a k) (hk : ∀ x, k x → N (x0 :: x1 :: x2 :: x3 :: x4 :: some (.d (f x)) :: l)) : N (x0 :: x1 :: x2 :: x3 :: x4 :: some (.d (f a)) :: l) := hk a h
theorem gen_d6 {x0 x1 x2 x3 x4 x5 : Option S} {l : Dl} {α : Type} {a : α} {k : α → Prop} {N : Dl → Prop} (f : α → D) (h : bnd a k) (hk : ∀ x, k x → N (x0 :: x1 :: x2 :: x3 :: x4 :: x5 :: some (.d (f x)) :: l)) : N (x0 :: x1 :: x2 :: x3 :: x4 :: x5 :: some (.d (f a)) :: l) := hk a h
theorem gen_d7 {x0 x1 x2 x3 x4 x5 x6 : Option S} {l : Dl} {α : Type} {a : α} {k : α → Prop} {N : Dl → Prop} (f : α → D) (h : bnd a k) (hk : ∀ x, k x → N (x0 :: x1 :: x2 :: x3 :: x4 :: x5 :: x6 :: some (.d (f x)) :: l)) : N (x0 :: x1 :: x2 :: x3 :: x4 :: x5 :: x6 :: some (.d (f a)) :: l) := hk a h
theorem gen_d9 {x0 x1 x2 x3 x4 x5 x6 x7 x8 : Option S} {l : Dl} {α : Type} {a : α} {k : α → Prop} {N : Dl → Prop} (f : α → D) (h : bnd a k) (hk : ∀ x, k x → N (x0 :: x1 :: x2 :: x3 :: x4 :: x5 :: x6 :: x7 :: x8 :: some (.d (f x)) :: l)) : N (x0 :: x1 :: x2 :: x3 :: x4 :: x5 :: x6 :: x7 :: x8 :: some (.d (f a)) :: l) := hk a h
theorem gen_d11 {x0 x1 x2 x3 x4 x5 x6 x7 x8 x9 x10 : Option S} {l : Dl} {α : Type} {a : α} {k : α → Prop} {N : Dl → Prop} (f : α → D) (h : bnd a k) (hk : ∀ x, k x → N (x0 :: x1 :: x2 :: x3 :: x4 :: x5 :: x6 :: x7 :: x8 :: x9 :: x10 :: some (.d (f x)) :: l)) : N (x0 :: x1 :: x2 :: x3 :: x4 :: x5 :: x6 :: x7 :: x8 :: x9 :: x10 :: some (.d (f a)) :: l) := hk a h
theorem gen_d12 {x0 x1 x2 x3 x4 x5 x6 x7 x8 x9 x10 x11 : Option S} {l : Dl} {α : Type} {a : α} {k : α → Prop} {N : Dl → Prop} (f : α → D) (h : bnd a k) (hk : ∀ x, k x → N (x0 :: x1 :: x2 :: x3 :: x4 :: x5 :: x6 :: x7 :: x8 :: x9 :: x10 :: x11 :: some (.d (f x)) :: l)) : N (x0 :: x1 :: x2 :: x3 :: x4 :: x5 :: x6 :: x7 :: x8 :: x9 :: x10 :: x11 :: some (.d (f a)) :: l) := hk a h
theorem gen_o1 {x0 : Option S} {l : Dl} {α : Type} {oa : Option Addr} {a : List α} {k : List α → Prop} {N : Dl → Prop} (f : α → D) (h : bnd a k) (hk : ∀ x, k x → N (x0 :: some (.own oa (List.map f x)) :: l)) : N (x0 :: some (.own oa (List.map f a)) :: l) := hk a h
theorem gen_o2 {x0 x1 : Option S} {l : Dl} {α : Type} {oa : Option Addr} {a : List α} {k : List α → Prop} {N : Dl → Prop} (f : α → D) (h : bnd a k) (hk : ∀ x, k x → N (x0 :: x1 :: some (.own oa (List.map f x)) :: l)) : N (x0 :: x1 :: some (.own oa (List.map f a)) :: l) := hk a h
theorem gen_o4 {x0 x1 x2 x3 : Option S} {l : Dl} {α : Type} {oa : Option Addr} {a : List α} {k : List α → Prop} {N : Dl → Prop} (f : α → D) (h : bnd a k) (hk : ∀ x, k x → N (x0 :: x1 :: x2 :: x3 :: some (.own oa (List.map f x)) :: l)) : N (x0 :: x1 :: x2 :: x3 :: some (.own oa (List.map f a)) :: l) := hk a h
theorem gen_o6 {x0 x1 x2 x3 x4 x5 : Option S} {l : Dl} {α : Type} {oa : Option Addr} {a : List α} {k : List α → Prop} {N : Dl → Prop} (f : α → D) (h : bnd a k) (hk : ∀ x, k x → N (x0 :: x1 :: x2 :: x3 :: x4 :: x5 :: some (.own oa (List.map f x)) :: l)) : N (x0 :: x1 :: x2 :: x3 :: x4 :: x5 :: some (.own oa (List.map f a)) :: l) := hk a h
end Pu
set_option Elab.async false
set_option linter.all false
set_option maxRecDepth 100000
set_option maxHeartbeats 8000000
set_option autoImplicit false
namespace Pu
open PySem PySem.Spec PyProof.Rows L2
noncomputable def top (i : Nat) : Stmt := PySem.Challenge.pw_outagain_k27_two_numbers.main.body.getD i (.Pass ⟨0, 0, 0, 0⟩)
noncomputable abbrev s__law_pool : Stmt := (top 35)
noncomputable abbrev s__law_take : Stmt := (top 36)
noncomputable abbrev s__law_depot : Stmt := (top 38)
noncomputable abbrev s__law_spots : Stmt := (top 40)
noncomputable abbrev s__law_due_spots : Stmt := (top 41)
noncomputable abbrev s__law_dealing : Stmt := (top 42)
noncomputable abbrev s__law_everybody : Stmt := (top 43)
noncomputable abbrev s__law_fewest : Stmt := (top 45)
noncomputable abbrev s_check_period_and_quota : Stmt := (top 22)
noncomputable abbrev s_check_firsts : Stmt := (top 23)
noncomputable abbrev s_DepotU_initU : Stmt := (inClass (top 21) 2)
noncomputable abbrev s__law_steep : Stmt := (top 39)
noncomputable abbrev s__law_great : Stmt := (top 37)
noncomputable abbrev s__law_counted : Stmt := (top 44)
noncomputable abbrev s_check_days : Stmt := (top 8)
noncomputable abbrev s_Depot_size : Stmt := (inClass (top 21) 4)
noncomputable abbrev s_check_weekdays : Stmt := (top 10)
noncomputable abbrev s_check_wish : Stmt := (top 9)
noncomputable abbrev s_Depot_closings : Stmt := (inClass (top 21) 7)
noncomputable abbrev s_need_reasons : Stmt := (top 17)
noncomputable abbrev s_Depot_weekday : Stmt := (inClass (top 21) 6)
noncomputable abbrev s_Depot_last_weekday : Stmt := (inClass (top 21) 8)
noncomputable abbrev s_Depot_places : Stmt := (inClass (top 21) 5)
noncomputable abbrev s_Depot_due_places : Stmt := (inClass (top 21) 9)
noncomputable abbrev s_crowd_reasons : Stmt := (top 13)
noncomputable abbrev s_surplus : Stmt := (top 14)
noncomputable abbrev s_last_needs : Stmt := (top 16)
noncomputable abbrev s_left_places : Stmt := (top 12)
noncomputable abbrev s_free_firsts : Stmt := (top 30)
noncomputable abbrev s_back_weekdays : Stmt := (top 29)
noncomputable abbrev s_late_needs : Stmt := (top 28)
noncomputable abbrev s_back_needs : Stmt := (top 15)
noncomputable abbrev s_closing_needs : Stmt := (top 27)
noncomputable abbrev s_wish_reasons : Stmt := (top 26)
noncomputable abbrev s_deal : Stmt := (top 18)
noncomputable abbrev s_completed : Stmt := (top 31)
noncomputable abbrev s_reach : Stmt := (top 25)
noncomputable abbrev s__law_number : Stmt := (top 33)
noncomputable abbrev s__law_same : Stmt := (top 34)
noncomputable abbrev s__law_right : Stmt := (top 46)
noncomputable abbrev s__law_twice : Stmt := (top 47)
noncomputable abbrev s_law : Stmt := (top 48)
noncomputable abbrev s_BadDepotU_initU : Stmt := (inClass (top 4) 0)
noncomputable abbrev s_OutOfRangeU_initU : Stmt := (inClass (top 3) 0)
noncomputable abbrev s_BadWishU_initU : Stmt := (inClass (top 5) 0)
theorem sc__law_pool : FnScope ["script"] ["script"] (defScope s__law_pool) := ⟨rfl, rfl, rfl, by decide +kernel, rfl, by decide +kernel, by decide +kernel⟩
theorem sc__law_take : FnScope ["pool", "limit", "cell", "got", "k", "mixed"] ["pool", "limit"] (defScope s__law_take) := ⟨rfl, rfl, rfl, by decide +kernel, rfl, by decide +kernel, by decide +kernel⟩
theorem sc__law_depot : FnScope ["pool", "drivers", "period", "m", "n", "q", "firsts", "k"] ["pool", "drivers", "period"] (defScope s__law_depot) := ⟨rfl, rfl, rfl, by decide +kernel, rfl, by decide +kernel, by decide +kernel⟩
theorem sc__law_spots : FnScope ["plan", "row", "first"] ["plan"] (defScope s__law_spots) := ⟨rfl, rfl, rfl, by decide +kernel, rfl, by decide +kernel, by decide +kernel⟩
theorem sc__law_due_spots : FnScope ["plan", "span", "row", "z"] ["plan", "span"] (defScope s__law_due_spots) := ⟨rfl, rfl, rfl, by decide +kernel, rfl, by decide +kernel, by decide +kernel⟩
theorem sc__law_dealing : FnScope ["pool", "plan", "span", "due", "spots", "c", "k", "row", "first"] ["pool", "plan", "span"] (defScope s__law_dealing) := ⟨rfl, rfl, rfl, by decide +kernel, rfl, by decide +kernel, by decide +kernel⟩
theorem sc__law_everybody : FnScope ["pool", "plan", "span", "way", "first", "row", "low", "late", "i", "spots", "k", "j", "kept"] ["pool", "plan", "span"] (defScope s__law_everybody) := ⟨rfl, rfl, rfl, by decide +kernel, rfl, by decide +kernel, by decide +kernel⟩
theorem sc__law_fewest : FnScope ["plan", "z", "wish", "back", "i", "behind", "j"] ["plan", "z", "wish"] (defScope s__law_fewest) := ⟨rfl, rfl, rfl, by decide +kernel, rfl, by decide +kernel, by decide +kernel⟩
theorem sc_check_period_and_quota : FnScope ["period", "quota"] ["period", "quota"] (defScope s_check_period_and_quota) := ⟨rfl, rfl, rfl, by decide +kernel, rfl, by decide +kernel, by decide +kernel⟩
theorem sc_check_firsts : FnScope ["period", "quota", "firsts", "driver", "first", "ones"] ["period", "quota", "firsts"] (defScope s_check_firsts) := ⟨rfl, rfl, rfl, by decide +kernel, rfl, by decide +kernel, by decide +kernel⟩
theorem sc_DepotU_initU : FnScope ["self", "period", "quota", "firsts"] ["self", "period", "quota", "firsts"] (defScope s_DepotU_initU) := ⟨rfl, rfl, rfl, by decide +kernel, rfl, by decide +kernel, by decide +kernel⟩
theorem sc__law_steep : FnScope ["pool", "period", "m", "q", "firsts", "k"] ["pool", "period"] (defScope s__law_steep) := ⟨rfl, rfl, rfl, by decide +kernel, rfl, by decide +kernel, by decide +kernel⟩
theorem sc__law_great : FnScope ["pool", "most", "way", "got", "k"] ["pool", "most"] (defScope s__law_great) := ⟨rfl, rfl, rfl, by decide +kernel, rfl, by decide +kernel, by decide +kernel⟩
theorem sc__law_counted : FnScope ["plan", "span", "wish", "m", "j", "spots", "c", "have", "x", "back", "i", "behind"] ["plan", "span", "wish"] (defScope s__law_counted) := ⟨rfl, rfl, rfl, by decide +kernel, rfl, by decide +kernel, by decide +kernel⟩
theorem sc_check_days : FnScope ["days"] ["days"] (defScope s_check_days) := ⟨rfl, rfl, rfl, by decide +kernel, rfl, by decide +kernel, by decide +kernel⟩
theorem sc_Depot_size : FnScope ["self"] ["self"] (defScope s_Depot_size) := ⟨rfl, rfl, rfl, by decide +kernel, rfl, by decide +kernel, by decide +kernel⟩
theorem sc_check_weekdays : FnScope ["depot", "row", "least", "driver", "weekday"] ["depot", "row", "least"] (defScope s_check_weekdays) := ⟨rfl, rfl, rfl, by decide +kernel, rfl, by decide +kernel, by decide +kernel⟩
theorem sc_check_wish : FnScope ["depot", "wish"] ["depot", "wish"] (defScope s_check_wish) := ⟨rfl, rfl, rfl, by decide +kernel, rfl, by decide +kernel, by decide +kernel⟩
theorem sc_Depot_closings : FnScope ["self", "days"] ["self", "days"] (defScope s_Depot_closings) := ⟨rfl, rfl, rfl, by decide +kernel, rfl, by decide +kernel, by decide +kernel⟩
theorem sc_need_reasons : FnScope ["word", "needs", "carried", "r", "need"] ["word", "needs", "carried"] (defScope s_need_reasons) := ⟨rfl, rfl, rfl, by decide +kernel, rfl, by decide +kernel, by decide +kernel⟩
theorem sc_Depot_weekday : FnScope ["self", "morning"] ["self", "morning"] (defScope s_Depot_weekday) := ⟨rfl, rfl, rfl, by decide +kernel, rfl, by decide +kernel, by decide +kernel⟩
theorem sc_Depot_last_weekday : FnScope ["self", "days"] ["self", "days"] (defScope s_Depot_last_weekday) := ⟨rfl, rfl, rfl, by decide +kernel, rfl, by decide +kernel, by decide +kernel⟩
theorem sc_Depot_places : FnScope ["self", "weekday"] ["self"] (defScope s_Depot_places) := ⟨rfl, rfl, rfl, by decide +kernel, rfl, by decide +kernel, by decide +kernel⟩
theorem sc_Depot_due_places : FnScope ["self", "days", "last", "weekday", "count"] ["self", "days"] (defScope s_Depot_due_places) := ⟨rfl, rfl, rfl, by decide +kernel, rfl, by decide +kernel, by decide +kernel⟩
theorem sc_crowd_reasons : FnScope ["depot", "days", "weekdays", "reasons", "weekday", "room", "told"] ["depot", "days", "weekdays"] (defScope s_crowd_reasons) := ⟨rfl, rfl, rfl, by decide +kernel, rfl, by decide +kernel, by decide +kernel⟩
theorem sc_surplus : FnScope ["places", "firsts", "low", "high", "first"] ["places", "firsts", "low", "high"] (defScope s_surplus) := ⟨rfl, rfl, rfl, by decide +kernel, rfl, by decide +kernel, by decide +kernel⟩
theorem sc_last_needs : FnScope ["places", "firsts", "last", "told", "r"] ["places", "firsts", "last", "told"] (defScope s_last_needs) := ⟨rfl, rfl, rfl, by decide +kernel, rfl, by decide +kernel, by decide +kernel⟩
theorem sc_left_places : FnScope ["depot", "days", "weekdays", "weekday", "room"] ["depot", "days", "weekdays"] (defScope s_left_places) := ⟨rfl, rfl, rfl, by decide +kernel, rfl, by decide +kernel, by decide +kernel⟩
theorem sc_free_firsts : FnScope ["depot", "wish", "weekday", "first"] ["depot", "wish"] (defScope s_free_firsts) := ⟨rfl, rfl, rfl, by decide +kernel, rfl, by decide +kernel, by decide +kernel⟩
theorem sc_back_weekdays : FnScope ["depot", "wish", "weekday", "first"] ["depot", "wish"] (defScope s_back_weekdays) := ⟨rfl, rfl, rfl, by decide +kernel, rfl, by decide +kernel, by decide +kernel⟩
theorem sc_late_needs : FnScope ["depot", "days", "wish", "last", "backs", "weekday"] ["depot", "days", "wish"] (defScope s_late_needs) := ⟨rfl, rfl, rfl, by decide +kernel, rfl, by decide +kernel, by decide +kernel⟩
theorem sc_back_needs : FnScope ["places", "firsts", "told", "r"] ["places", "firsts", "told"] (defScope s_back_needs) := ⟨rfl, rfl, rfl, by decide +kernel, rfl, by decide +kernel, by decide +kernel⟩
theorem sc_closing_needs : FnScope ["depot", "days", "wish", "backs"] ["depot", "days", "wish"] (defScope s_closing_needs) := ⟨rfl, rfl, rfl, by decide +kernel, rfl, by decide +kernel, by decide +kernel⟩
theorem sc_wish_reasons : FnScope ["depot", "days", "wish", "closings"] ["depot", "days", "wish"] (defScope s_wish_reasons) := ⟨rfl, rfl, rfl, by decide +kernel, rfl, by decide +kernel, by decide +kernel⟩
theorem sc_deal : FnScope ["places", "firsts", "dealt", "over", "weekday", "_", "able", "at", "first", "taker"] ["places", "firsts"] (defScope s_deal) := ⟨rfl, rfl, rfl, by decide +kernel, rfl, by decide +kernel, by decide +kernel⟩
theorem sc_completed : FnScope ["depot", "days", "wish", "dealt", "free", "driver", "weekday", "due"] ["depot", "days", "wish"] (defScope s_completed) := ⟨rfl, rfl, rfl, by decide +kernel, rfl, by decide +kernel, by decide +kernel⟩
theorem sc_reach : FnScope ["depot", "days", "wish", "reasons"] ["depot", "days", "wish"] (defScope s_reach) := ⟨rfl, rfl, rfl, by decide +kernel, rfl, by decide +kernel, by decide +kernel⟩
theorem sc__law_number : FnScope ["got"] ["got"] (defScope s__law_number) := ⟨rfl, rfl, rfl, by decide +kernel, rfl, by decide +kernel, by decide +kernel⟩
theorem sc__law_same : FnScope ["got", "due", "k"] ["got", "due"] (defScope s__law_same) := ⟨rfl, rfl, rfl, by decide +kernel, rfl, by decide +kernel, by decide +kernel⟩
theorem sc__law_right : FnScope ["got", "due", "z", "m"] ["got", "due", "z", "m"] (defScope s__law_right) := ⟨rfl, rfl, rfl, by decide +kernel, rfl, by decide +kernel, by decide +kernel⟩
theorem sc__law_twice : FnScope ["plan", "depot", "span", "wish", "z", "due", "handed", "got"] ["plan", "depot", "span", "wish"] (defScope s__law_twice) := ⟨rfl, rfl, rfl, by decide +kernel, rfl, by decide +kernel, by decide +kernel⟩
theorem sc_law : FnScope ["script", "pool", "plan", "m", "z", "j", "wish", "fewest", "depot", "many"] ["script"] (defScope s_law) := ⟨rfl, rfl, rfl, by decide +kernel, rfl, by decide +kernel, by decide +kernel⟩
theorem sc_BadDepotU_initU : FnScope ["self", "at", "code"] ["self", "at", "code"] (defScope s_BadDepotU_initU) := ⟨rfl, rfl, rfl, by decide +kernel, rfl, by decide +kernel, by decide +kernel⟩
theorem sc_OutOfRangeU_initU : FnScope ["self", "at", "code"] ["self", "at", "code"] (defScope s_OutOfRangeU_initU) := ⟨rfl, rfl, rfl, by decide +kernel, rfl, by decide +kernel, by decide +kernel⟩
theorem sc_BadWishU_initU : FnScope ["self", "at", "code"] ["self", "at", "code"] (defScope s_BadWishU_initU) := ⟨rfl, rfl, rfl, by decide +kernel, rfl, by decide +kernel, by decide +kernel⟩
theorem bb_abs : bootBuiltins "abs" = some (.builtin "abs") := by decide +kernel
theorem bb_bool : bootBuiltins "bool" = some (.type "bool") := by decide +kernel
theorem bb_int : bootBuiltins "int" = some (.type "int") := by decide +kernel
theorem bb_isinstance : bootBuiltins "isinstance" = some (.builtin "isinstance") := by decide +kernel
theorem bb_len : bootBuiltins "len" = some (.builtin "len") := by decide +kernel
theorem bb_list : bootBuiltins "list" = some (.type "list") := by decide +kernel
theorem bb_max : bootBuiltins "max" = some (.builtin "max") := by decide +kernel
theorem bb_min : bootBuiltins "min" = some (.builtin "min") := by decide +kernel
theorem bb_sorted : bootBuiltins "sorted" = some (.builtin "sorted") := by decide +kernel
theorem bb_str : bootBuiltins "str" = some (.type "str") := by decide +kernel
theorem bb_sum : bootBuiltins "sum" = some (.builtin "sum") := by decide +kernel
theorem bb_tuple : bootBuiltins "tuple" = some (.type "tuple") := by decide +kernel
noncomputable def w__law_pool : PSp := wpNewPool
noncomputable def b__law_take : PSx :=
 (pSeq (pIf (pAndT (pTst (pOp fEq (pOp fIx (pVarV 0) (pC (.int 0))) (pC (.int 0)))) (pTst (pOp fLt (pOp fIx (pVarV 0) (pC (.int 3))) (pCB fLen (pCons (pOp fIx (pVarV 0) (pC (.int 4))) pNil))))) (pSeq (pAsg (pCB fAbs (pCons (pOp fIx (pOp fIx (pVarV 0) (pC (.int 4))) (pOp fIx (pVarV 0) (pC (.int 3)))) pNil)) 2)
 (pSeq (pSetI 0 (pC (.int 3)) (pOp fAdd (pOp fIx (pVarV 0) (pC (.int 3))) (pC (.int 1))))
 (pIf (pTst (pOp fGe (pVar 2) (pOp fPow (pC (.int 10)) (pC (.int 18))))) (pSetI 0 (pC (.int 0)) (pVar 2)) (pSetI 0 (pC (.int 1)) (pOp fMod (pCB fInt (pCons (pOp fAdd (pOp fAdd (pOp fMul (pOp fIx (pVarV 0) (pC (.int 1))) (pC (.int 48271))) (pVar 2)) (pC (.int 1))) pNil)) (pC (.int 2147483399))))))) pNext)
 (pSeq (pIf (pTst (pOp fGt (pOp fIx (pVarV 0) (pC (.int 0))) (pC (.int 0)))) (pSeq (pAsg (pOp fMod (pCB fInt (pCons (pOp fIx (pVarV 0) (pC (.int 0))) pNil)) (pVar 1)) 3)
 (pSeq (pSetI 0 (pC (.int 0)) (pOp fDiv (pOp fIx (pVarV 0) (pC (.int 0))) (pVar 1)))
 (pRet (pVar 3)))) pNext)
 (pSeq (pAsg (pOp fAdd (pOp fIx (pVarV 0) (pC (.int 2))) (pC (.int 1))) 4)
 (pSeq (pSetI 0 (pC (.int 2)) (pVar 4))
 (pSeq (pAsg (pOp fIx (pVarV 0) (pC (.int 1))) 5)
 (pSeq (pAsg (pOp fMod (pCB fInt (pCons (pOp fAdd (pOp fAdd (pOp fMul (pVar 5) (pVar 5)) (pOp fMul (pVar 4) (pC (.int 3571)))) (pC (.int 40692))) pNil)) (pC (.int 2147483399))) 5)
 (pSeq (pAsg (pOp fMod (pCB fInt (pCons (pOp fAdd (pOp fMul (pVar 5) (pVar 5)) (pOp fDiv (pVar 5) (pC (.int 97)))) pNil)) (pC (.int 2147483629))) 5)
 (pSeq (pSetI 0 (pC (.int 1)) (pVar 5))
 (pRet (pOp fMod (pCB fInt (pCons (pOp fDiv (pVar 5) (pC (.int 8))) pNil)) (pVar 1)))))))))))
noncomputable def w__law_take : PSp := wpPl 6 b__law_take
noncomputable def b__law_depot : PSx :=
 (pSeq (pAsg (pOp fAdd (pC (.int 1)) (pCall w__law_take (pCons (pVar 0) (pCons (pVar 2) pNil)))) 3)
 (pSeq (pAsg (pOp fAdd (pC (.int 1)) (pCall w__law_take (pCons (pVar 0) (pCons (pVar 1) pNil)))) 4)
 (pSeq (pAsg (pOp fAdd (pC (.int 1)) (pCall w__law_take (pCons (pVar 0) (pCons (pVar 4) pNil)))) 5)
 (pSeq (pIf (pTst (pOp fGt (pCall w__law_take (pCons (pVar 0) (pCons (pC (.int 3)) pNil))) (pC (.int 0)))) (pAsg (pOp fAdd (pC (.int 1)) (pCall w__law_take (pCons (pVar 0) (pCons (pCB fMin2 (pCons (pVar 4) (pCons (pC (.int 2)) pNil))) pNil)))) 5) pNext)
 (pSeq (pAsgO (pOp fRep (pLst (pCons (pC (.int 1)) pNil)) (pVar 5)) 6)
 (pSeq (pFor (pRange1 (pOp fSub (pVar 4) (pVar 5))) (pgName 7) (pIns 6 (pCall w__law_take (pCons (pVar 0) (pCons (pOp fAdd (pCB fLen (pCons (pVarV 6) pNil)) (pC (.int 1))) pNil))) (pOp fAdd (pC (.int 1)) (pCall w__law_take (pCons (pVar 0) (pCons (pVar 3) pNil))))))
 (pFreeze 6 (pRet (pLst (pCons (pVar 3) (pCons (pVar 5) (pCons (pVar 6) pNil))))))))))))
noncomputable def w__law_depot : PSp := wpB 8 b__law_depot
noncomputable def b__law_spots : PSx :=
 (pSeq (pAsgO (pOp fRep (pLst (pCons (pC (.int 0)) pNil)) (pOp fAdd (pOp fIx (pVar 0) (pC (.int 0))) (pC (.int 1)))) 1)
 (pSeq (pFor (pItems (pOp fIx (pVar 0) (pC (.int 2)))) (pgName 2) (pSetI 1 (pVar 2) (pOp fAdd (pOp fIx (pVarV 1) (pVar 2)) (pC (.int 1)))))
 (pSeq (pSetI 1 (pC (.int 1)) (pOp fSub (pOp fIx (pVarV 1) (pC (.int 1))) (pOp fIx (pVar 0) (pC (.int 1)))))
 (pFreeze 1 (pRet (pVar 1))))))
noncomputable def w__law_spots : PSp := wpB 3 b__law_spots
noncomputable def b__law_due_spots : PSx :=
 (pSeq (pAsgV [true, false, false, false] (pCall w__law_spots (pCons (pVar 0) pNil)) 2)
 (pSeq (pAsg (pOp fAdd (pOp fMod (pCB fInt (pCons (pVar 1) pNil)) (pOp fIx (pVar 0) (pC (.int 0)))) (pC (.int 1))) 3)
 (pSeq (pSetI 2 (pVar 3) (pOp fAdd (pOp fIx (pVarV 2) (pVar 3)) (pOp fIx (pVar 0) (pC (.int 1)))))
 (pFreeze 2 (pRet (pVar 2))))))
noncomputable def w__law_due_spots : PSp := wpB 4 b__law_due_spots
noncomputable def b__law_dealing : PSx :=
 (pSeq (pAsg (pCall w__law_due_spots (pCons (pVar 1) (pCons (pVar 2) pNil))) 3)
 (pSeq (pAsgO (pLst pNil) 4)
 (pSeq (pFor (pRange2 (pC (.int 1)) (pOp fAdd (pOp fIx (pVar 1) (pC (.int 0))) (pC (.int 1)))) (pgName 5) (pExt 4 (pLc (pRange1 (pOp fIx (pVar 3) (pVar 5))) (pgName 6) pYes (pVar 5) [6])))
 (pSeq (pAsgO (pLst pNil) 7)
 (pSeq (pFor (pItems (pOp fIx (pVar 1) (pC (.int 2)))) (pgName 8) (pAppM 7 (pmPop 4 (pCall w__law_take (pCons (pVar 0) (pCons (pCB fLen (pCons (pVarV 4) pNil)) pNil))))))
 (pFreeze 7 (pRet (pVar 7))))))))
noncomputable def w__law_dealing : PSp := wpB 9 b__law_dealing
noncomputable def b__law_everybody : PSx :=
 (pSeq (pAsg (pCall w__law_take (pCons (pVar 0) (pCons (pC (.int 4)) pNil))) 3)
 (pSeq (pIf (pTst (pOp fEq (pVar 3) (pC (.int 0)))) (pRet (pLc (pItems (pOp fIx (pVar 1) (pC (.int 2)))) (pgName 4) pYes (pOp fAdd (pC (.int 1)) (pCall w__law_take (pCons (pVar 0) (pCons (pOp fIx (pVar 1) (pC (.int 0))) pNil)))) [4])) pNext)
 (pSeq (pAsgV [true, true, true, false, false, false, false, false, false, false, false, false, false] (pCall w__law_dealing (pCons (pVar 0) (pCons (pVar 1) (pCons (pVar 2) pNil)))) 5)
 (pSeq (pIf (pTst (pOp fEq (pVar 3) (pC (.int 1)))) (pFreeze 5 (pRet (pVar 5))) pNext)
 (pSeq (pAsg (pC (.int 0)) 6)
 (pSeq (pIf (pTst (pOp fEq (pVar 3) (pC (.int 3)))) (pAsg (pCB fLen (pCons (pLc (pItems (pOp fIx (pVar 1) (pC (.int 2)))) (pgName 4) (pTst (pOp fLe (pVar 4) (pOp fAdd (pOp fMod (pCB fInt (pCons (pVar 2) pNil)) (pOp fIx (pVar 1) (pC (.int 0)))) (pC (.int 1))))) (pVar 4) [4]) pNil)) 6) pNext)
 (pSeq (pAsg (pCB fSortPr (pCons (pLc (pRange1 (pCB fLen (pCons (pVarV 5) pNil))) (pgName 8) pYes (pTup (pCons (pOp fIx (pOp fIx (pVar 1) (pC (.int 2))) (pVar 8)) (pCons (pVar 8) pNil))) [8]) pNil)) 7)
 (pSeq (pAsg (pOp fAdd (pSl (pVar 7) pNo (pPart (pVar 6))) (pRevL (pSl (pVar 7) (pPart (pVar 6)) pNo))) 7)
 (pSeq (pAsg (pCB fSortI (pCons (pVarV 5) pNil)) 9)
 (pSeq (pFor (pRange1 (pCB fLen (pCons (pVarV 5) pNil))) (pgName 10) (pSetI 5 (pOp fIx (pOp fIx (pVar 7) (pVar 10)) (pC (.int 1))) (pOp fIx (pVar 9) (pVar 10))))
 (pSeq (pFor (pRange1 (pCall w__law_take (pCons (pVar 0) (pCons (pC (.int 3)) pNil)))) (pgName 10) (pSeq (pAsg (pCall w__law_take (pCons (pVar 0) (pCons (pCB fLen (pCons (pVarV 5) pNil)) pNil))) 8)
 (pSeq (pAsg (pCall w__law_take (pCons (pVar 0) (pCons (pCB fLen (pCons (pVarV 5) pNil)) pNil))) 11)
 (pSeq (pAsg (pOp fIx (pVarV 5) (pVar 8)) 12)
 (pSeq (pSetI 5 (pVar 8) (pOp fIx (pVarV 5) (pVar 11)))
 (pSetI 5 (pVar 11) (pVar 12)))))))
 (pFreeze 5 (pRet (pVar 5))))))))))))))
noncomputable def w__law_everybody : PSp := wpB 13 b__law_everybody
noncomputable def b__law_fewest : PSx :=
 (pSeq (pAsg (pLc (pRange1 (pCB fLen (pCons (pVar 2) pNil))) (pgName 4) (pTst (pOp fLt (pOp fIx (pVar 2) (pVar 4)) (pOp fIx (pOp fIx (pVar 0) (pC (.int 2))) (pVar 4)))) (pVar 4) [4]) 3)
 (pSeq (pAsg (pLc (pItems (pVar 3)) (pgName 4) (pTst (pOp fGt (pOp fIx (pVar 2) (pVar 4)) (pVar 1))) (pVar 4) [4]) 5)
 (pSeq (pFor (pRange1 (pC (.int 13))) (pgName 6) (pIf (pAndT (pTst (pOp fLe (pCB fLen (pCons (pVar 3) pNil)) (pOp fMul (pOp fIx (pVar 0) (pC (.int 1))) (pVar 6)))) (pTst (pOp fLe (pCB fLen (pCons (pVar 5) pNil)) (pOp fMul (pOp fIx (pVar 0) (pC (.int 1))) (pCB fMax2 (pCons (pC (.int 0)) (pCons (pOp fSub (pVar 6) (pC (.int 1))) pNil))))))) (pRet (pVar 6)) pNext))
 (pRet (pC (.int 13))))))
noncomputable def w__law_fewest : PSp := wpB 7 b__law_fewest
noncomputable def b_check_period_and_quota : PSx :=
 (pSeq (pIf (pNotT (pTst (pChain fLe fLe (pC (.int 1)) (pVar 0) (pC (.int 8))))) (pRaise 22 (pCons (pVar 0) (pCons (pC (.str "period")) pNil))) pNext)
 (pIf (pNotT (pTst (pChain fLe fLe (pC (.int 1)) (pVar 1) (pC (.int 12))))) (pRaise 22 (pCons (pVar 1) (pCons (pC (.str "quota")) pNil))) pNext))
noncomputable def w_check_period_and_quota : PSp := wpB 2 b_check_period_and_quota
noncomputable def b_check_firsts : PSx :=
 (pSeq (pIf (pNotT (pTst (pChain fLe fLe (pC (.int 1)) (pCB fLen (pCons (pVar 2) pNil)) (pC (.int 12))))) (pRaise 22 (pCons (pCB fLen (pCons (pVar 2) pNil)) (pCons (pC (.str "drivers")) pNil))) pNext)
 (pSeq (pFor (pEnum 0 (pVar 2)) (pgSeq 2 (pgCons (pgName 3) (pgCons (pgName 4) pgNil))) (pIf (pNotT (pTst (pChain fLe fLe (pC (.int 1)) (pVar 4) (pVar 0)))) (pRaise 22 (pCons (pVar 3) (pCons (pC (.str "first")) pNil))) pNext))
 (pSeq (pAsg (pCount (pVar 2) (pC (.int 1))) 5)
 (pIf (pTst (pOp fLt (pVar 5) (pVar 1))) (pRaise 22 (pCons (pVar 5) (pCons (pC (.str "ones")) pNil))) pNext))))
noncomputable def w_check_firsts : PSp := wpB 6 b_check_firsts
noncomputable def b_DepotU_initU : PSx :=
 (pSeq (pDrop (pCall w_check_period_and_quota (pCons (pVar 1) (pCons (pVar 2) pNil))))
 (pSeq (pDrop (pCall w_check_firsts (pCons (pVar 1) (pCons (pVar 2) (pCons (pVar 3) pNil)))))
 (pSeq (pSetF 0 0 0 (pVar 1))
 (pSeq (pSetF 0 0 1 (pVar 2))
 (pSetF 0 0 2 (pCB fTuple (pCons (pVar 3) pNil)))))))
noncomputable def i_DepotU_initU : PSpI := wpI 0 4 b_DepotU_initU
noncomputable def b__law_steep : PSx :=
 (pSeq (pAsg (pOp fAdd (pC (.int 2)) (pCall w__law_take (pCons (pVar 0) (pCons (pOp fSub (pVar 1) (pC (.int 1))) pNil)))) 2)
 (pSeq (pAsg (pOp fAdd (pC (.int 1)) (pCall w__law_take (pCons (pVar 0) (pCons (pC (.int 2)) pNil)))) 3)
 (pSeq (pAsgO (pOp fRep (pLst (pCons (pC (.int 1)) pNil)) (pVar 3)) 4)
 (pSeq (pFor (pRange1 (pOp fAdd (pOp fAdd (pVar 3) (pC (.int 1))) (pCall w__law_take (pCons (pVar 0) (pCons (pC (.int 3)) pNil))))) (pgName 5) (pIns 4 (pCall w__law_take (pCons (pVar 0) (pCons (pOp fAdd (pCB fLen (pCons (pVarV 4) pNil)) (pC (.int 1))) pNil))) (pOp fAdd (pC (.int 2)) (pCall w__law_take (pCons (pVar 0) (pCons (pOp fSub (pVar 2) (pC (.int 1))) pNil))))))
 (pFreeze 4 (pRet (pLst (pCons (pVar 2) (pCons (pVar 3) (pCons (pVar 4) pNil))))))))))
noncomputable def w__law_steep : PSp := wpB 6 b__law_steep
noncomputable def b__law_great : PSx :=
 (pSeq (pAsg (pCall w__law_take (pCons (pVar 0) (pCons (pC (.int 4)) pNil))) 2)
 (pSeq (pIf (pTst (pOp fLt (pVar 2) (pC (.int 2)))) (pRet (pCB fMin2 (pCons (pVar 1) (pCons (pCall w__law_take (pCons (pVar 0) (pCons (pC (.int 40)) pNil))) pNil)))) pNext)
 (pSeq (pIf (pTst (pOp fEq (pVar 2) (pC (.int 2)))) (pRet (pCB fMin2 (pCons (pVar 1) (pCons (pCall w__law_take (pCons (pVar 0) (pCons (pC (.int 4000)) pNil))) pNil)))) pNext)
 (pSeq (pIf (pTst (pOp fGt (pOp fIx (pVar 0) (pC (.int 0))) (pVar 1))) (pRet (pCall w__law_take (pCons (pVar 0) (pCons (pOp fAdd (pVar 1) (pC (.int 1))) pNil)))) pNext)
 (pSeq (pAsg (pC (.int 0)) 3)
 (pSeq (pFor (pRange1 (pC (.int 4))) (pgName 4) (pAsg (pOp fAdd (pOp fMul (pVar 3) (pOp fPow (pC (.int 10)) (pC (.int 8)))) (pCall w__law_take (pCons (pVar 0) (pCons (pOp fPow (pC (.int 10)) (pC (.int 8))) pNil)))) 3))
 (pRet (pOp fMod (pCB fInt (pCons (pVar 3) pNil)) (pOp fAdd (pVar 1) (pC (.int 1)))))))))))
noncomputable def w__law_great : PSp := wpB 5 b__law_great
noncomputable def b__law_counted : PSx :=
 (pSeq (pAsg (pOp fIx (pVar 0) (pC (.int 0))) 3)
 (pSeq (pAsg (pOp fDiv (pVar 1) (pVar 3)) 4)
 (pSeq (pAsg (pCall w__law_due_spots (pCons (pVar 0) (pCons (pVar 1) pNil))) 5)
 (pSeq (pFor (pRange2 (pC (.int 1)) (pOp fAdd (pVar 3) (pC (.int 1)))) (pgName 6) (pSeq (pAsg (pCB fLen (pCons (pLc (pItems (pVar 2)) (pgName 8) (pTst (pOp fEq (pVar 8) (pVar 6))) (pVar 8) [8]) pNil)) 7)
 (pIf (pTst (pOp fGt (pVar 7) (pOp fIx (pVar 5) (pVar 6)))) (pRet (pTup (pCons (pC (.str "crowd")) (pCons (pVar 6) (pCons (pVar 7) (pCons (pOp fIx (pVar 5) (pVar 6)) pNil)))))) pNext)))
 (pSeq (pAsg (pLc (pRange1 (pCB fLen (pCons (pVar 2) pNil))) (pgName 10) (pTst (pOp fLt (pOp fIx (pVar 2) (pVar 10)) (pOp fIx (pOp fIx (pVar 0) (pC (.int 2))) (pVar 10)))) (pVar 10) [10]) 9)
 (pSeq (pIf (pTst (pOp fGt (pCB fLen (pCons (pVar 9) pNil)) (pOp fMul (pOp fIx (pVar 0) (pC (.int 1))) (pVar 4)))) (pRet (pTup (pCons (pC (.str "closings")) (pCons (pCB fLen (pCons (pVar 9) pNil)) (pCons (pOp fMul (pOp fIx (pVar 0) (pC (.int 1))) (pVar 4)) pNil))))) pNext)
 (pSeq (pAsg (pLc (pItems (pVar 9)) (pgName 10) (pTst (pOp fGt (pOp fIx (pVar 2) (pVar 10)) (pOp fAdd (pOp fMod (pCB fInt (pCons (pVar 1) pNil)) (pVar 3)) (pC (.int 1))))) (pVar 10) [10]) 11)
 (pSeq (pIf (pTst (pOp fGt (pCB fLen (pCons (pVar 11) pNil)) (pOp fMul (pOp fIx (pVar 0) (pC (.int 1))) (pCB fMax2 (pCons (pC (.int 0)) (pCons (pOp fSub (pVar 4) (pC (.int 1))) pNil)))))) (pRet (pTup (pCons (pC (.str "lasts")) (pCons (pCB fLen (pCons (pVar 11) pNil)) (pCons (pOp fMul (pOp fIx (pVar 0) (pC (.int 1))) (pCB fMax2 (pCons (pC (.int 0)) (pCons (pOp fSub (pVar 4) (pC (.int 1))) pNil)))) pNil))))) pNext)
 (pRet (pTup (pCons (pC (.str "reached")) (pCons (pCB fList (pCons (pVar 2) pNil)) pNil))))))))))))
noncomputable def w__law_counted : PSp := wpB 12 b__law_counted
noncomputable def b_check_days : PSx :=
 (pIf (pNotT (pTst (pChain fLe fLe (pC (.int 0)) (pVar 0) (pC (.int 1000000000000000000000000000000))))) (pRaise 21 (pCons (pVar 0) (pCons (pC (.str "days")) pNil))) pNext)
noncomputable def w_check_days : PSp := wpB 1 b_check_days
noncomputable def b_Depot_size : PSx :=
 (pRet (pCB fLen (pCons (pFld [(0, 2)] (pVar 0)) pNil)))
noncomputable def w_Depot_size : PSp := wpB 1 b_Depot_size
noncomputable def b_check_weekdays : PSx :=
 (pSeq (pIf (pTst (pOp fNe (pCB fLen (pCons (pVar 1) pNil)) (pProp 0 w_Depot_size (pVar 0)))) (pRaise 27 (pCons (pCB fLen (pCons (pVar 1) pNil)) (pCons (pC (.str "length")) pNil))) pNext)
 (pFor (pEnum 0 (pVar 1)) (pgSeq 2 (pgCons (pgName 3) (pgCons (pgName 4) pgNil))) (pIf (pNotT (pTst (pChain fLe fLe (pVar 2) (pVar 4) (pFld [(0, 0)] (pVar 0))))) (pRaise 27 (pCons (pVar 3) (pCons (pC (.str "weekday")) pNil))) pNext)))
noncomputable def w_check_weekdays : PSp := wpB 5 b_check_weekdays
noncomputable def b_check_wish : PSx :=
 (pDrop (pCall w_check_weekdays (pCons (pVar 0) (pCons (pVar 1) (pCons (pC (.int 0)) pNil)))))
noncomputable def w_check_wish : PSp := wpB 2 b_check_wish
noncomputable def b_Depot_closings : PSx :=
 (pSeq (pDrop (pCall w_check_days (pCons (pVar 1) pNil)))
 (pRet (pOp fDiv (pVar 1) (pFld [(0, 0)] (pVar 0)))))
noncomputable def w_Depot_closings : PSp := wpB 2 b_Depot_closings
noncomputable def b_need_reasons : PSx :=
 (pRet (pLc (pItems (pVar 1)) (pgSeq 2 (pgCons (pgName 3) (pgCons (pgName 4) pgNil))) (pTst (pOp fGt (pVar 4) (pVar 2))) (pTup (pCons (pVar 0) (pCons (pVar 3) (pCons (pVar 4) (pCons (pVar 2) pNil))))) [3, 4]))
noncomputable def w_need_reasons : PSp := wpB 5 b_need_reasons
noncomputable def b_Depot_weekday : PSx :=
 (pSeq (pIf (pTst (pOp fLt (pVar 1) (pC (.int 1)))) (pRaise 21 (pCons (pVar 1) (pCons (pC (.str "morning")) pNil))) pNext)
 (pRet (pOp fAdd (pOp fMod (pOp fSub (pVar 1) (pC (.int 1))) (pFld [(0, 0)] (pVar 0))) (pC (.int 1)))))
noncomputable def w_Depot_weekday : PSp := wpB 2 b_Depot_weekday
noncomputable def b_Depot_last_weekday : PSx :=
 (pSeq (pDrop (pCall w_check_days (pCons (pVar 1) pNil)))
 (pRet (pMeth 0 w_Depot_weekday (pVar 0) (pCons (pOp fAdd (pVar 1) (pC (.int 1))) pNil))))
noncomputable def w_Depot_last_weekday : PSp := wpB 2 b_Depot_last_weekday
noncomputable def b_Depot_places : PSx :=
 (pRet (pCB fTuple (pCons (pLc (pRange2 (pC (.int 1)) (pOp fAdd (pFld [(0, 0)] (pVar 0)) (pC (.int 1)))) (pgName 1) pYes (pOp fSub (pCount (pFld [(0, 2)] (pVar 0)) (pVar 1)) (pIfE (pTst (pOp fEq (pVar 1) (pC (.int 1)))) (pFld [(0, 1)] (pVar 0)) (pC (.int 0)))) [1]) pNil)))
noncomputable def w_Depot_places : PSp := wpB 2 b_Depot_places
noncomputable def b_Depot_due_places : PSx :=
 (pSeq (pAsg (pMeth 0 w_Depot_last_weekday (pVar 0) (pCons (pVar 1) pNil)) 2)
 (pRet (pCB fTuple (pCons (pLc (pEnum 1 (pProp 0 w_Depot_places (pVar 0))) (pgSeq 2 (pgCons (pgName 3) (pgCons (pgName 4) pgNil))) pYes (pOp fAdd (pVar 4) (pIfE (pTst (pOp fEq (pVar 3) (pVar 2))) (pFld [(0, 1)] (pVar 0)) (pC (.int 0)))) [3, 4]) pNil))))
noncomputable def w_Depot_due_places : PSp := wpB 5 b_Depot_due_places
noncomputable def b_crowd_reasons : PSx :=
 (pSeq (pAsgO (pLst pNil) 3)
 (pSeq (pFor (pEnum 1 (pMeth 0 w_Depot_due_places (pVar 0) (pCons (pVar 1) pNil))) (pgSeq 2 (pgCons (pgName 4) (pgCons (pgName 5) pgNil))) (pSeq (pAsg (pCount (pVar 2) (pVar 4)) 6)
 (pIf (pTst (pOp fGt (pVar 6) (pVar 5))) (pApp 3 (pTup (pCons (pC (.str "crowd")) (pCons (pVar 4) (pCons (pVar 6) (pCons (pVar 5) pNil)))))) pNext)))
 (pFreeze 3 (pRet (pVar 3)))))
noncomputable def w_crowd_reasons : PSp := wpB 7 b_crowd_reasons
noncomputable def b_surplus : PSx :=
 (pRet (pOp fSub (pCB fSumA (pCons (pSl (pVar 0) (pPart (pVar 2)) (pPart (pVar 3))) pNil)) (pCB fLen (pCons (pLc (pItems (pVar 1)) (pgName 4) (pTst (pOp fLe (pVar 4) (pVar 3))) (pVar 4) [4]) pNil))))
noncomputable def w_surplus : PSp := wpB 5 b_surplus
noncomputable def b_last_needs : PSx :=
 (pRet (pLc (pRange2 (pVar 2) (pOp fAdd (pCB fLen (pCons (pVar 0) pNil)) (pC (.int 1)))) (pgName 4) pYes (pTup (pCons (pVar 4) (pCons (pOp fAdd (pVar 3) (pCB fMax2 (pCons (pC (.int 0)) (pCons (pCall w_surplus (pCons (pVar 0) (pCons (pVar 1) (pCons (pVar 2) (pCons (pVar 4) pNil))))) pNil)))) pNil))) [4]))
noncomputable def w_last_needs : PSp := wpB 5 b_last_needs
noncomputable def b_left_places : PSx :=
 (pRet (pLc (pEnum 1 (pMeth 0 w_Depot_due_places (pVar 0) (pCons (pVar 1) pNil))) (pgSeq 2 (pgCons (pgName 3) (pgCons (pgName 4) pgNil))) pYes (pOp fSub (pVar 4) (pCount (pVar 2) (pVar 3))) [3, 4]))
noncomputable def w_left_places : PSp := wpB 5 b_left_places
noncomputable def b_free_firsts : PSx :=
 (pRet (pLc (pZip2 (pVar 1) (pFld [(0, 2)] (pVar 0))) (pgSeq 2 (pgCons (pgName 2) (pgCons (pgName 3) pgNil))) (pTst (pOp fEq (pVar 2) (pC (.int 0)))) (pVar 3) [2, 3]))
noncomputable def w_free_firsts : PSp := wpB 4 b_free_firsts
noncomputable def b_back_weekdays : PSx :=
 (pRet (pLc (pZip2 (pVar 1) (pFld [(0, 2)] (pVar 0))) (pgSeq 2 (pgCons (pgName 2) (pgCons (pgName 3) pgNil))) (pTst (pChain fLt fLt (pC (.int 0)) (pVar 2) (pVar 3))) (pVar 2) [2, 3]))
noncomputable def w_back_weekdays : PSp := wpB 4 b_back_weekdays
noncomputable def b_late_needs : PSx :=
 (pSeq (pAsg (pMeth 0 w_Depot_last_weekday (pVar 0) (pCons (pVar 1) pNil)) 3)
 (pSeq (pAsg (pLc (pItems (pCall w_back_weekdays (pCons (pVar 0) (pCons (pVar 2) pNil)))) (pgName 5) (pTst (pOp fGt (pVar 5) (pVar 3))) (pVar 5) [5]) 4)
 (pRet (pCall w_last_needs (pCons (pCall w_left_places (pCons (pVar 0) (pCons (pVar 1) (pCons (pVar 2) pNil)))) (pCons (pCall w_free_firsts (pCons (pVar 0) (pCons (pVar 2) pNil))) (pCons (pVar 3) (pCons (pCB fLen (pCons (pVar 4) pNil)) pNil))))))))
noncomputable def w_late_needs : PSp := wpB 6 b_late_needs
noncomputable def b_back_needs : PSx :=
 (pRet (pLc (pRange1 (pOp fAdd (pCB fLen (pCons (pVar 0) pNil)) (pC (.int 1)))) (pgName 3) pYes (pTup (pCons (pVar 3) (pCons (pOp fAdd (pVar 2) (pCall w_surplus (pCons (pVar 0) (pCons (pVar 1) (pCons (pC (.int 0)) (pCons (pVar 3) pNil)))))) pNil))) [3]))
noncomputable def w_back_needs : PSp := wpB 4 b_back_needs
noncomputable def b_closing_needs : PSx :=
 (pSeq (pAsg (pCall w_back_weekdays (pCons (pVar 0) (pCons (pVar 2) pNil))) 3)
 (pRet (pCall w_back_needs (pCons (pCall w_left_places (pCons (pVar 0) (pCons (pVar 1) (pCons (pVar 2) pNil)))) (pCons (pCall w_free_firsts (pCons (pVar 0) (pCons (pVar 2) pNil))) (pCons (pCB fLen (pCons (pVar 3) pNil)) pNil))))))
noncomputable def w_closing_needs : PSp := wpB 4 b_closing_needs
noncomputable def b_wish_reasons : PSx :=
 (pSeq (pAsg (pMeth 0 w_Depot_closings (pVar 0) (pCons (pVar 1) pNil)) 3)
 (pRet (pOp fAdd (pOp fAdd (pCall w_crowd_reasons (pCons (pVar 0) (pCons (pVar 1) (pCons (pVar 2) pNil)))) (pCall w_need_reasons (pCons (pC (.str "closings")) (pCons (pCall w_closing_needs (pCons (pVar 0) (pCons (pVar 1) (pCons (pVar 2) pNil)))) (pCons (pOp fMul (pFld [(0, 1)] (pVar 0)) (pVar 3)) pNil))))) (pCall w_need_reasons (pCons (pC (.str "lasts")) (pCons (pCall w_late_needs (pCons (pVar 0) (pCons (pVar 1) (pCons (pVar 2) pNil)))) (pCons (pOp fMul (pFld [(0, 1)] (pVar 0)) (pCB fMax2 (pCons (pC (.int 0)) (pCons (pOp fSub (pVar 3) (pC (.int 1))) pNil)))) pNil)))))))
noncomputable def w_wish_reasons : PSp := wpB 4 b_wish_reasons
noncomputable def b_deal : PSx :=
 (pSeq (pAsgO (pOp fRep (pLst (pCons (pC (.int 0)) pNil)) (pCB fLen (pCons (pVar 1) pNil))) 2)
 (pSeq (pAsgO (pLst pNil) 3)
 (pSeq (pFor (pRange3 (pCB fLen (pCons (pVar 0) pNil)) (pC (.int 0)) (pUn fNeg (pC (.int 1)))) (pgName 4) (pFor (pRange1 (pOp fIx (pVar 0) (pOp fSub (pVar 4) (pC (.int 1))))) (pgName 5) (pSeq (pAsg (pLc (pEnum 0 (pVar 1)) (pgSeq 2 (pgCons (pgName 7) (pgCons (pgName 8) pgNil))) (pAndT (pTst (pOp fEq (pOp fIx (pVarV 2) (pVar 7)) (pC (.int 0)))) (pTst (pOp fLe (pVar 8) (pVar 4)))) (pTup (pCons (pVar 8) (pCons (pVar 7) pNil))) [7, 8]) 6)
 (pIf (pTru (pVar 6)) (pSeq (pAsgG (pCB fMaxL (pCons (pVar 6) pNil)) (pgSeq 2 (pgCons (pgName 5) (pgCons (pgName 9) pgNil))))
 (pSetI 2 (pVar 9) (pVar 4))) (pApp 3 (pVar 4))))))
 (pFreeze 2 (pRet (pLc (pItems (pVar 2)) (pgName 4) pYes (pIfE (pTst (pOp fGt (pVar 4) (pC (.int 0)))) (pVar 4) pNevX) [4]))))))
noncomputable def w_deal : PSp := wpB 10 b_deal
noncomputable def b_completed : PSx :=
 (pSeq (pAsg (pCall w_deal (pCons (pCall w_left_places (pCons (pVar 0) (pCons (pVar 1) (pCons (pVar 2) pNil)))) (pCons (pCall w_free_firsts (pCons (pVar 0) (pCons (pVar 2) pNil))) pNil))) 3)
 (pSeq (pAsg (pLc (pEnum 0 (pVar 2)) (pgSeq 2 (pgCons (pgName 5) (pgCons (pgName 6) pgNil))) (pTst (pOp fEq (pVar 6) (pC (.int 0)))) (pVar 5) [5, 6]) 4)
 (pSeq (pAsgO (pCB fList (pCons (pVar 2) pNil)) 7)
 (pSeq (pFor (pZip2 (pVar 4) (pVar 3)) (pgSeq 2 (pgCons (pgName 5) (pgCons (pgName 6) pgNil))) (pSetI 7 (pVar 5) (pVar 6)))
 (pFreeze 7 (pRet (pVar 7)))))))
noncomputable def w_completed : PSp := wpB 8 b_completed
noncomputable def b_reach : PSx :=
 (pSeq (pDrop (pCall w_check_days (pCons (pVar 1) pNil)))
 (pSeq (pDrop (pCall w_check_wish (pCons (pVar 0) (pCons (pVar 2) pNil))))
 (pSeq (pAsg (pCall w_wish_reasons (pCons (pVar 0) (pCons (pVar 1) (pCons (pVar 2) pNil)))) 3)
 (pRet (pIfE (pTru (pVar 3)) (pOp fIx (pVar 3) (pC (.int 0))) (pTup (pCons (pC (.str "reached")) (pCons (pCall w_completed (pCons (pVar 0) (pCons (pVar 1) (pCons (pVar 2) pNil)))) pNil))))))))
noncomputable def w_reach : PSp := wpB 4 b_reach
noncomputable def b__law_number : PSx :=
 (pRet (pAndV (pIsT "int" (pVar 0)) (pNotV (pIsT "bool" (pVar 0)))))
noncomputable def w__law_number : PSp := wpB 1 b__law_number
noncomputable def b__law_same (W : PSp) : PSx :=
 (pSeq (pIf (pTst (pOp fIsN (pVar 1) (pC .non))) (pRet (pOp fIsN (pVar 0) (pC .non))) pNext)
 (pSeq (pIf (pTru (pIsT "bool" (pVar 1))) (pRet (pAndV (pIsT "bool" (pVar 0)) (pOp fEq (pVar 0) (pVar 1)))) pNext)
 (pSeq (pIf (pTru (pIsT "int" (pVar 1))) (pRet (pAndV (pCall w__law_number (pCons (pVar 0) pNil)) (pOp fEq (pVar 0) (pVar 1)))) pNext)
 (pSeq (pIf (pTru (pIsT "str" (pVar 1))) (pRet (pAndV (pIsT "str" (pVar 0)) (pOp fEq (pVar 0) (pVar 1)))) pNext)
 (pSeq (pIf (pAndT (pTru (pIsT "list" (pVar 1))) (pNotT (pTru (pIsT "list" (pVar 0))))) (pRet (pC (.bl false))) pNext)
 (pSeq (pIf (pAndT (pTru (pIsT "tuple" (pVar 1))) (pNotT (pTru (pIsT "tuple" (pVar 0))))) (pRet (pC (.bl false))) pNext)
 (pSeq (pIf (pTst (pOp fNe (pCB fLen (pCons (pVar 0) pNil)) (pCB fLen (pCons (pVar 1) pNil)))) (pRet (pC (.bl false))) pNext)
 (pSeq (pFor (pRange1 (pCB fLen (pCons (pVar 1) pNil))) (pgName 2) (pIf (pNotT (pTru (pCall W (pCons (pOp fIx (pVar 0) (pVar 2)) (pCons (pOp fIx (pVar 1) (pVar 2)) pNil))))) (pRet (pC (.bl false))) pNext))
 (pRet (pC (.bl true)))))))))))
noncomputable def w__law_same : Nat → PSp
  | 0 => fun _ _ _ => False
  | n + 1 => wpB 3 (b__law_same (w__law_same n))
noncomputable def b__law_right : PSx :=
 (pSeq (pIf (pOrT (pTst (pOp fEq (pOp fIx (pVar 1) (pC (.int 0))) (pC (.str "crowd")))) (pTst (pOp fEq (pOp fIx (pVar 1) (pC (.int 0))) (pC (.str "reached"))))) (pRet (pCall (w__law_same 6) (pCons (pVar 0) (pCons (pVar 1) pNil)))) pNext)
 (pSeq (pIf (pOrT (pNotT (pTru (pIsT "tuple" (pVar 0)))) (pOrT (pTst (pOp fNe (pCB fLen (pCons (pVar 0) pNil)) (pC (.int 4)))) (pNotT (pTru (pCall w__law_number (pCons (pOp fIx (pVar 0) (pC (.int 1))) pNil)))))) (pRet (pC (.bl false))) pNext)
 (pSeq (pIf (pOrT (pTst (pOp fGt (pOp fIx (pVar 0) (pC (.int 1))) (pVar 3))) (pOrT (pTst (pOp fLt (pOp fIx (pVar 0) (pC (.int 1))) (pC (.int 0)))) (pAndT (pTst (pOp fEq (pOp fIx (pVar 1) (pC (.int 0))) (pC (.str "lasts")))) (pTst (pOp fLt (pOp fIx (pVar 0) (pC (.int 1))) (pVar 2)))))) (pRet (pC (.bl false))) pNext)
 (pRet (pCall (w__law_same 6) (pCons (pVar 0) (pCons (pTup (pCons (pOp fIx (pVar 1) (pC (.int 0))) (pCons (pOp fIx (pVar 0) (pC (.int 1))) (pCons (pOp fIx (pVar 1) (pC (.int 1))) (pCons (pOp fIx (pVar 1) (pC (.int 2))) pNil))))) pNil)))))))
noncomputable def w__law_right : PSp := wpB 4 b__law_right
noncomputable def b__law_twice : PSx :=
 (pSeq (pAsg (pOp fAdd (pOp fMod (pCB fInt (pCons (pVar 2) pNil)) (pOp fIx (pVar 0) (pC (.int 0)))) (pC (.int 1))) 4)
 (pSeq (pAsg (pCall w__law_counted (pCons (pVar 0) (pCons (pVar 2) (pCons (pVar 3) pNil)))) 5)
 (pSeq (pAsgO (pCB fList (pCons (pVar 3) pNil)) 6)
 (pSeq (pAsgT [false, true, true, false, false, false, true, false] (pCall w_reach (pCons (pVar 1) (pCons (pVar 2) (pCons (pVar 6) pNil)))) 7)
 (pSeq (pIf (pOrT (pTst (pOp fNe (pVarV 6) (pVar 3))) (pVwT [true, false, false, false, true, true, false, true] (pNotT (pTru (pCall w__law_right (pCons (pVar 7) (pCons (pVar 5) (pCons (pVar 4) (pCons (pOp fIx (pVar 0) (pC (.int 0))) pNil))))))))) (pRet (pC (.bl false))) pNext)
 (pSeq (pSetI 6 (pC (.int 0)) (pC (.int 0)))
 (pSeq (pIf (pTst (pOp fEq (pOp fIx (pVar 5) (pC (.int 0))) (pC (.str "reached")))) (pSeq (pTrSet 7 true (pTrI pTrV (pC (.int 1))) (pC (.int 0)) (pC (.int 0)))
 (pTrApp 7 true (pTrI pTrV (pC (.int 1))) (pC (.int 1)))) pNext)
 (pRet (pCall w__law_right (pCons (pCall w_reach (pCons (pVar 1) (pCons (pVar 2) (pCons (pCB fTuple (pCons (pVar 3) pNil)) pNil)))) (pCons (pVar 5) (pCons (pVar 4) (pCons (pOp fIx (pVar 0) (pC (.int 0))) pNil)))))))))))))
noncomputable def w__law_twice : PSp := wpB 8 b__law_twice
noncomputable def b_law : PSx :=
 (pSeq (pAsg (pCall w__law_pool (pCons (pVar 0) pNil)) 1)
 (pSeq (pAsg (pCall w__law_depot (pCons (pVar 1) (pCons (pC (.int 12)) (pCons (pC (.int 8)) pNil)))) 2)
 (pSeq (pIf (pTst (pOp fEq (pCall w__law_take (pCons (pVar 1) (pCons (pC (.int 2)) pNil))) (pC (.int 1)))) (pAsg (pCall w__law_steep (pCons (pVar 1) (pCons (pC (.int 8)) pNil))) 2) pNext)
 (pSeq (pAsg (pOp fIx (pVar 2) (pC (.int 0))) 3)
 (pSeq (pAsg (pOp fAdd (pC (.int 1)) (pCall w__law_take (pCons (pVar 1) (pCons (pVar 3) pNil)))) 4)
 (pSeq (pAsg (pCall w__law_take (pCons (pVar 1) (pCons (pC (.int 14)) pNil))) 5)
 (pSeq (pIf (pTst (pOp fEq (pCall w__law_take (pCons (pVar 1) (pCons (pC (.int 4)) pNil))) (pC (.int 3)))) (pAsg (pCall w__law_great (pCons (pVar 1) (pCons (pOp fDiv (pOp fAdd (pOp fSub (pOp fPow (pC (.int 10)) (pC (.int 30))) (pVar 4)) (pC (.int 1))) (pVar 3)) pNil))) 5) pNext)
 (pSeq (pAsg (pCall w__law_everybody (pCons (pVar 1) (pCons (pVar 2) (pCons (pOp fSub (pOp fAdd (pOp fMul (pVar 3) (pVar 5)) (pVar 4)) (pC (.int 1))) pNil)))) 6)
 (pSeq (pAsg (pCall w__law_fewest (pCons (pVar 2) (pCons (pVar 4) (pCons (pVar 6) pNil)))) 7)
 (pSeq (pAsg (pMake 0 i_DepotU_initU (pCons (pOp fIx (pVar 2) (pC (.int 0))) (pCons (pOp fIx (pVar 2) (pC (.int 1))) (pCons (pCB fList (pCons (pOp fIx (pVar 2) (pC (.int 2))) pNil)) pNil)))) 8)
 (pSeq (pFor (pItems (pLst (pCons (pVar 5) (pCons (pVar 7) (pCons (pOp fSub (pVar 7) (pC (.int 1))) (pCons (pVar 5) pNil)))))) (pgName 9) (pIf (pAndT (pTst (pOp fGe (pVar 9) (pC (.int 0)))) (pNotT (pTru (pCall w__law_twice (pCons (pVar 2) (pCons (pVar 8) (pCons (pOp fSub (pOp fAdd (pOp fMul (pVar 3) (pVar 9)) (pVar 4)) (pC (.int 1))) (pCons (pVar 6) pNil)))))))) (pRet (pC (.bl false))) pNext))
 (pRet (pC (.bl true))))))))))))))
noncomputable def w_law : PSp := wpB 10 b_law
structure Tx (K : PySem.W.Frag) (mg : Str → Option Value) (aa1 aa2 aa3 aa4 aa5 aa6 aa7 aa8 aa9 aa10 aa11 aa12 aa13 aa14 aa15 aa16 aa17 aa18 aa19 aa20 aa21 aa22 aa23 aa24 aa25 aa26 aa27 aa28 aa29 aa30 aa31 aa32 aa33 aa34 aa35 aa36 aa37 aa38 aa39 aa40 aa41 aa42 aa43 aa44 aa45 A_Depot A_OutagainError A_OutOfRange A_BadDepot A_BadWish p_Depot_size p_Depot_places : Addr) (dd1 dd2 dd3 dd4 dd5 dd6 dd7 dd8 dd9 dd10 dd11 dd12 dd13 dd14 dd15 dd16 dd17 dd18 dd19 dd20 dd21 dd22 dd23 dd24 dd25 dd26 dd27 dd28 dd29 dd30 dd31 dd32 dd33 dd34 dd35 dd36 dd37 dd38 dd39 dd40 dd41 dd42 dd43 dd44 dd45 : FuncData) : Prop where
  F__law_pool : Fun K "_law_pool" "_law_pool" s__law_pool aa1 dd1
  B__law_pool : L2.Binds K dd1 ["script"] []
  G__law_pool : mg "_law_pool" = some (.ref aa1)
  K__law_pool : PySem.W.keepIn K (.ref aa1) = true
  F__law_take : Fun K "_law_take" "_law_take" s__law_take aa2 dd2
  B__law_take : L2.Binds K dd2 ["pool", "limit"] []
  G__law_take : mg "_law_take" = some (.ref aa2)
  K__law_take : PySem.W.keepIn K (.ref aa2) = true
  F__law_depot : Fun K "_law_depot" "_law_depot" s__law_depot aa3 dd3
  B__law_depot : L2.Binds K dd3 ["pool", "drivers", "period"] []
  G__law_depot : mg "_law_depot" = some (.ref aa3)
  K__law_depot : PySem.W.keepIn K (.ref aa3) = true
  F__law_spots : Fun K "_law_spots" "_law_spots" s__law_spots aa4 dd4
  B__law_spots : L2.Binds K dd4 ["plan"] []
  G__law_spots : mg "_law_spots" = some (.ref aa4)
  K__law_spots : PySem.W.keepIn K (.ref aa4) = true
  F__law_due_spots : Fun K "_law_due_spots" "_law_due_spots" s__law_due_spots aa5 dd5
  B__law_due_spots : L2.Binds K dd5 ["plan", "span"] []
  G__law_due_spots : mg "_law_due_spots" = some (.ref aa5)
  K__law_due_spots : PySem.W.keepIn K (.ref aa5) = true
  F__law_dealing : Fun K "_law_dealing" "_law_dealing" s__law_dealing aa6 dd6
  B__law_dealing : L2.Binds K dd6 ["pool", "plan", "span"] []
  G__law_dealing : mg "_law_dealing" = some (.ref aa6)
  K__law_dealing : PySem.W.keepIn K (.ref aa6) = true
  F__law_everybody : Fun K "_law_everybody" "_law_everybody" s__law_everybody aa7 dd7
  B__law_everybody : L2.Binds K dd7 ["pool", "plan", "span"] []
  G__law_everybody : mg "_law_everybody" = some (.ref aa7)
  K__law_everybody : PySem.W.keepIn K (.ref aa7) = true
  F__law_fewest : Fun K "_law_fewest" "_law_fewest" s__law_fewest aa8 dd8
  B__law_fewest : L2.Binds K dd8 ["plan", "z", "wish"] []
  G__law_fewest : mg "_law_fewest" = some (.ref aa8)
  K__law_fewest : PySem.W.keepIn K (.ref aa8) = true
  F_check_period_and_quota : Fun K "check_period_and_quota" "check_period_and_quota" s_check_period_and_quota aa9 dd9
  B_check_period_and_quota : L2.Binds K dd9 ["period", "quota"] []
  G_check_period_and_quota : mg "check_period_and_quota" = some (.ref aa9)
  K_check_period_and_quota : PySem.W.keepIn K (.ref aa9) = true
  F_check_firsts : Fun K "check_firsts" "check_firsts" s_check_firsts aa10 dd10
  B_check_firsts : L2.Binds K dd10 ["period", "quota", "firsts"] []
  G_check_firsts : mg "check_firsts" = some (.ref aa10)
  K_check_firsts : PySem.W.keepIn K (.ref aa10) = true
  F_DepotU_initU : Fun K "__init__" "Depot.__init__" s_DepotU_initU aa11 dd11
  B_DepotU_initU : L2.Binds K dd11 ["self", "period", "quota", "firsts"] []
  mk_Depot : Mk K A_Depot aa11
  F__law_steep : Fun K "_law_steep" "_law_steep" s__law_steep aa12 dd12
  B__law_steep : L2.Binds K dd12 ["pool", "period"] []
  G__law_steep : mg "_law_steep" = some (.ref aa12)
  K__law_steep : PySem.W.keepIn K (.ref aa12) = true
  F__law_great : Fun K "_law_great" "_law_great" s__law_great aa13 dd13
  B__law_great : L2.Binds K dd13 ["pool", "most"] []
  G__law_great : mg "_law_great" = some (.ref aa13)
  K__law_great : PySem.W.keepIn K (.ref aa13) = true
  F__law_counted : Fun K "_law_counted" "_law_counted" s__law_counted aa14 dd14
  B__law_counted : L2.Binds K dd14 ["plan", "span", "wish"] []
  G__law_counted : mg "_law_counted" = some (.ref aa14)
  K__law_counted : PySem.W.keepIn K (.ref aa14) = true
  F_check_days : Fun K "check_days" "check_days" s_check_days aa15 dd15
  B_check_days : L2.Binds K dd15 ["days"] []
  G_check_days : mg "check_days" = some (.ref aa15)
  K_check_days : PySem.W.keepIn K (.ref aa15) = true
  F_Depot_size : Fun K "size" "Depot.size" s_Depot_size aa16 dd16
  B_Depot_size : L2.Binds K dd16 ["self"] []
  pr_Depot_size : PrpT K mg 0 A_Depot "size" p_Depot_size aa16
  F_check_weekdays : Fun K "check_weekdays" "check_weekdays" s_check_weekdays aa17 dd17
  B_check_weekdays : L2.Binds K dd17 ["depot", "row", "least"] []
  G_check_weekdays : mg "check_weekdays" = some (.ref aa17)
  K_check_weekdays : PySem.W.keepIn K (.ref aa17) = true
  F_check_wish : Fun K "check_wish" "check_wish" s_check_wish aa18 dd18
  B_check_wish : L2.Binds K dd18 ["depot", "wish"] []
  G_check_wish : mg "check_wish" = some (.ref aa18)
  K_check_wish : PySem.W.keepIn K (.ref aa18) = true
  F_Depot_closings : Fun K "closings" "Depot.closings" s_Depot_closings aa19 dd19
  B_Depot_closings : L2.Binds K dd19 ["self", "days"] []
  me_Depot_closings : MetT K mg 0 A_Depot "closings" aa19
  F_need_reasons : Fun K "need_reasons" "need_reasons" s_need_reasons aa20 dd20
  B_need_reasons : L2.Binds K dd20 ["word", "needs", "carried"] []
  G_need_reasons : mg "need_reasons" = some (.ref aa20)
  K_need_reasons : PySem.W.keepIn K (.ref aa20) = true
  F_Depot_weekday : Fun K "weekday" "Depot.weekday" s_Depot_weekday aa21 dd21
  B_Depot_weekday : L2.Binds K dd21 ["self", "morning"] []
  me_Depot_weekday : MetT K mg 0 A_Depot "weekday" aa21
  F_Depot_last_weekday : Fun K "last_weekday" "Depot.last_weekday" s_Depot_last_weekday aa22 dd22
  B_Depot_last_weekday : L2.Binds K dd22 ["self", "days"] []
  me_Depot_last_weekday : MetT K mg 0 A_Depot "last_weekday" aa22
  F_Depot_places : Fun K "places" "Depot.places" s_Depot_places aa23 dd23
  B_Depot_places : L2.Binds K dd23 ["self"] []
  pr_Depot_places : PrpT K mg 0 A_Depot "places" p_Depot_places aa23
  F_Depot_due_places : Fun K "due_places" "Depot.due_places" s_Depot_due_places aa24 dd24
  B_Depot_due_places : L2.Binds K dd24 ["self", "days"] []
  me_Depot_due_places : MetT K mg 0 A_Depot "due_places" aa24
  F_crowd_reasons : Fun K "crowd_reasons" "crowd_reasons" s_crowd_reasons aa25 dd25
  B_crowd_reasons : L2.Binds K dd25 ["depot", "days", "weekdays"] []
  G_crowd_reasons : mg "crowd_reasons" = some (.ref aa25)
  K_crowd_reasons : PySem.W.keepIn K (.ref aa25) = true
  F_surplus : Fun K "surplus" "surplus" s_surplus aa26 dd26
  B_surplus : L2.Binds K dd26 ["places", "firsts", "low", "high"] []
  G_surplus : mg "surplus" = some (.ref aa26)
  K_surplus : PySem.W.keepIn K (.ref aa26) = true
  F_last_needs : Fun K "last_needs" "last_needs" s_last_needs aa27 dd27
  B_last_needs : L2.Binds K dd27 ["places", "firsts", "last", "told"] []
  G_last_needs : mg "last_needs" = some (.ref aa27)
  K_last_needs : PySem.W.keepIn K (.ref aa27) = true
  F_left_places : Fun K "left_places" "left_places" s_left_places aa28 dd28
  B_left_places : L2.Binds K dd28 ["depot", "days", "weekdays"] []
  G_left_places : mg "left_places" = some (.ref aa28)
  K_left_places : PySem.W.keepIn K (.ref aa28) = true
  F_free_firsts : Fun K "free_firsts" "free_firsts" s_free_firsts aa29 dd29
  B_free_firsts : L2.Binds K dd29 ["depot", "wish"] []
  G_free_firsts : mg "free_firsts" = some (.ref aa29)
  K_free_firsts : PySem.W.keepIn K (.ref aa29) = true
  F_back_weekdays : Fun K "back_weekdays" "back_weekdays" s_back_weekdays aa30 dd30
  B_back_weekdays : L2.Binds K dd30 ["depot", "wish"] []
  G_back_weekdays : mg "back_weekdays" = some (.ref aa30)
  K_back_weekdays : PySem.W.keepIn K (.ref aa30) = true
  F_late_needs : Fun K "late_needs" "late_needs" s_late_needs aa31 dd31
  B_late_needs : L2.Binds K dd31 ["depot", "days", "wish"] []
  G_late_needs : mg "late_needs" = some (.ref aa31)
  K_late_needs : PySem.W.keepIn K (.ref aa31) = true
  F_back_needs : Fun K "back_needs" "back_needs" s_back_needs aa32 dd32
  B_back_needs : L2.Binds K dd32 ["places", "firsts", "told"] []
  G_back_needs : mg "back_needs" = some (.ref aa32)
  K_back_needs : PySem.W.keepIn K (.ref aa32) = true
  F_closing_needs : Fun K "closing_needs" "closing_needs" s_closing_needs aa33 dd33
  B_closing_needs : L2.Binds K dd33 ["depot", "days", "wish"] []
  G_closing_needs : mg "closing_needs" = some (.ref aa33)
  K_closing_needs : PySem.W.keepIn K (.ref aa33) = true
  F_wish_reasons : Fun K "wish_reasons" "wish_reasons" s_wish_reasons aa34 dd34
  B_wish_reasons : L2.Binds K dd34 ["depot", "days", "wish"] []
  G_wish_reasons : mg "wish_reasons" = some (.ref aa34)
  K_wish_reasons : PySem.W.keepIn K (.ref aa34) = true
  F_deal : Fun K "deal" "deal" s_deal aa35 dd35
  B_deal : L2.Binds K dd35 ["places", "firsts"] []
  G_deal : mg "deal" = some (.ref aa35)
  K_deal : PySem.W.keepIn K (.ref aa35) = true
  F_completed : Fun K "completed" "completed" s_completed aa36 dd36
  B_completed : L2.Binds K dd36 ["depot", "days", "wish"] []
  G_completed : mg "completed" = some (.ref aa36)
  K_completed : PySem.W.keepIn K (.ref aa36) = true
  F_reach : Fun K "reach" "reach" s_reach aa37 dd37
  B_reach : L2.Binds K dd37 ["depot", "days", "wish"] []
  G_reach : mg "reach" = some (.ref aa37)
  K_reach : PySem.W.keepIn K (.ref aa37) = true
  F__law_number : Fun K "_law_number" "_law_number" s__law_number aa38 dd38
  B__law_number : L2.Binds K dd38 ["got"] []
  G__law_number : mg "_law_number" = some (.ref aa38)
  K__law_number : PySem.W.keepIn K (.ref aa38) = true
  F__law_same : Fun K "_law_same" "_law_same" s__law_same aa39 dd39
  B__law_same : L2.Binds K dd39 ["got", "due"] []
  G__law_same : mg "_law_same" = some (.ref aa39)
  K__law_same : PySem.W.keepIn K (.ref aa39) = true
  F__law_right : Fun K "_law_right" "_law_right" s__law_right aa40 dd40
  B__law_right : L2.Binds K dd40 ["got", "due", "z", "m"] []
  G__law_right : mg "_law_right" = some (.ref aa40)
  K__law_right : PySem.W.keepIn K (.ref aa40) = true
  F__law_twice : Fun K "_law_twice" "_law_twice" s__law_twice aa41 dd41
  B__law_twice : L2.Binds K dd41 ["plan", "depot", "span", "wish"] []
  G__law_twice : mg "_law_twice" = some (.ref aa41)
  K__law_twice : PySem.W.keepIn K (.ref aa41) = true
  F_law : Fun K "law" "law" s_law aa42 dd42
  F_BadDepotU_initU : Fun K "__init__" "BadDepot.__init__" s_BadDepotU_initU aa43 dd43
  B_BadDepotU_initU : L2.Binds K dd43 ["self", "at", "code"] []
  F_OutOfRangeU_initU : Fun K "__init__" "OutOfRange.__init__" s_OutOfRangeU_initU aa44 dd44
  B_OutOfRangeU_initU : L2.Binds K dd44 ["self", "at", "code"] []
  F_BadWishU_initU : Fun K "__init__" "BadWish.__init__" s_BadWishU_initU aa45 dd45
  B_BadWishU_initU : L2.Binds K dd45 ["self", "at", "code"] []
  m_Depot : mg "Depot" = some (.ref A_Depot)
  fa_Depot_period : ∀ A, mg (cname 0) = some (.ref A) → Cls K A ∧ NoAttr K A "period"
  fa_Depot_quota : ∀ A, mg (cname 0) = some (.ref A) → Cls K A ∧ NoAttr K A "quota"
  fa_Depot_firsts : ∀ A, mg (cname 0) = some (.ref A) → Cls K A ∧ NoAttr K A "firsts"
  m_OutagainError : mg "OutagainError" = some (.ref A_OutagainError)
  m_OutOfRange : mg "OutOfRange" = some (.ref A_OutOfRange)
  m_BadDepot : mg "BadDepot" = some (.ref A_BadDepot)
  m_BadWish : mg "BadWish" = some (.ref A_BadWish)
  ex_BadDepot : ExT K mg 22 A_BadDepot aa43
  ex_OutOfRange : ExT K mg 21 A_OutOfRange aa44
  ex_BadWish : ExT K mg 27 A_BadWish aa45
  fld_firsts : FldT K mg "firsts" [(0, 2)]
  fld_period : FldT K mg "period" [(0, 0)]
  fld_quota : FldT K mg "quota" [(0, 1)]
  cv_Depot_MOST_PERIOD : CvT K mg 0 A_Depot "MOST_PERIOD" 8
  cv_Depot_MOST_DRIVERS : CvT K mg 0 A_Depot "MOST_DRIVERS" 12
  g_MOST_QUOTA : ∃ t, mg "MOST_QUOTA" = some (.int 12 t)
  g_MOST_DAYS : ∃ t, mg "MOST_DAYS" = some (.int 1000000000000000000000000000000 t)
  n_abs : mg "abs" = none
  n_bool : mg "bool" = none
  n_enumerate : mg "enumerate" = none
  n_int : mg "int" = none
  n_isinstance : mg "isinstance" = none
  n_len : mg "len" = none
  n_list : mg "list" = none
  n_max : mg "max" = none
  n_min : mg "min" = none
  n_range : mg "range" = none
  n_sorted : mg "sorted" = none
  n_str : mg "str" = none
  n_sum : mg "sum" = none
  n_tuple : mg "tuple" = none
  n_zip : mg "zip" = none
section
variable {P : Program} {w : World} {K : PySem.W.Frag} {mg : Str → Option Value} {base : Heap}
variable {aa1 aa2 aa3 aa4 aa5 aa6 aa7 aa8 aa9 aa10 aa11 aa12 aa13 aa14 aa15 aa16 aa17 aa18 aa19 aa20 aa21 aa22 aa23 aa24 aa25 aa26 aa27 aa28 aa29 aa30 aa31 aa32 aa33 aa34 aa35 aa36 aa37 aa38 aa39 aa40 aa41 aa42 aa43 aa44 aa45 A_Depot A_OutagainError A_OutOfRange A_BadDepot A_BadWish p_Depot_size p_Depot_places : Addr} {dd1 dd2 dd3 dd4 dd5 dd6 dd7 dd8 dd9 dd10 dd11 dd12 dd13 dd14 dd15 dd16 dd17 dd18 dd19 dd20 dd21 dd22 dd23 dd24 dd25 dd26 dd27 dd28 dd29 dd30 dd31 dd32 dd33 dd34 dd35 dd36 dd37 dd38 dd39 dd40 dd41 dd42 dd43 dd44 dd45 : FuncData}
theorem okx_BadDepot (T : Tx K mg aa1 aa2 aa3 aa4 aa5 aa6 aa7 aa8 aa9 aa10 aa11 aa12 aa13 aa14 aa15 aa16 aa17 aa18 aa19 aa20 aa21 aa22 aa23 aa24 aa25 aa26 aa27 aa28 aa29 aa30 aa31 aa32 aa33 aa34 aa35 aa36 aa37 aa38 aa39 aa40 aa41 aa42 aa43 aa44 aa45 A_Depot A_OutagainError A_OutOfRange A_BadDepot A_BadWish p_Depot_size p_Depot_places dd1 dd2 dd3 dd4 dd5 dd6 dd7 dd8 dd9 dd10 dd11 dd12 dd13 dd14 dd15 dd16 dd17 dd18 dd19 dd20 dd21 dd22 dd23 dd24 dd25 dd26 dd27 dd28 dd29 dd30 dd31 dd32 dd33 dd34 dd35 dd36 dd37 dd38 dd39 dd40 dd41 dd42 dd43 dd44 dd45) : FnOk P w K mg base (L2.CX P w) 1 aa43 dd43 ["self", "at", "code"] (spX ⟨K, mg⟩ 22 3) :=
  xinit2 (N := ["self", "at", "code"]) T.F_BadDepotU_initU sc_BadDepotU_initU rfl T.ex_BadDepot rfl rfl (fun cdv A outer s H E => pss_cons (ps_ost (pv 0) (pv 1)) (pss_one (ps_ost (pv 0) (pv 2))))
theorem okx_OutOfRange (T : Tx K mg aa1 aa2 aa3 aa4 aa5 aa6 aa7 aa8 aa9 aa10 aa11 aa12 aa13 aa14 aa15 aa16 aa17 aa18 aa19 aa20 aa21 aa22 aa23 aa24 aa25 aa26 aa27 aa28 aa29 aa30 aa31 aa32 aa33 aa34 aa35 aa36 aa37 aa38 aa39 aa40 aa41 aa42 aa43 aa44 aa45 A_Depot A_OutagainError A_OutOfRange A_BadDepot A_BadWish p_Depot_size p_Depot_places dd1 dd2 dd3 dd4 dd5 dd6 dd7 dd8 dd9 dd10 dd11 dd12 dd13 dd14 dd15 dd16 dd17 dd18 dd19 dd20 dd21 dd22 dd23 dd24 dd25 dd26 dd27 dd28 dd29 dd30 dd31 dd32 dd33 dd34 dd35 dd36 dd37 dd38 dd39 dd40 dd41 dd42 dd43 dd44 dd45) : FnOk P w K mg base (L2.CX P w) 1 aa44 dd44 ["self", "at", "code"] (spX ⟨K, mg⟩ 21 3) :=
  xinit2 (N := ["self", "at", "code"]) T.F_OutOfRangeU_initU sc_OutOfRangeU_initU rfl T.ex_OutOfRange rfl rfl (fun cdv A outer s H E => pss_cons (ps_ost (pv 0) (pv 1)) (pss_one (ps_ost (pv 0) (pv 2))))
theorem okx_BadWish (T : Tx K mg aa1 aa2 aa3 aa4 aa5 aa6 aa7 aa8 aa9 aa10 aa11 aa12 aa13 aa14 aa15 aa16 aa17 aa18 aa19 aa20 aa21 aa22 aa23 aa24 aa25 aa26 aa27 aa28 aa29 aa30 aa31 aa32 aa33 aa34 aa35 aa36 aa37 aa38 aa39 aa40 aa41 aa42 aa43 aa44 aa45 A_Depot A_OutagainError A_OutOfRange A_BadDepot A_BadWish p_Depot_size p_Depot_places dd1 dd2 dd3 dd4 dd5 dd6 dd7 dd8 dd9 dd10 dd11 dd12 dd13 dd14 dd15 dd16 dd17 dd18 dd19 dd20 dd21 dd22 dd23 dd24 dd25 dd26 dd27 dd28 dd29 dd30 dd31 dd32 dd33 dd34 dd35 dd36 dd37 dd38 dd39 dd40 dd41 dd42 dd43 dd44 dd45) : FnOk P w K mg base (L2.CX P w) 1 aa45 dd45 ["self", "at", "code"] (spX ⟨K, mg⟩ 27 3) :=
  xinit2 (N := ["self", "at", "code"]) T.F_BadWishU_initU sc_BadWishU_initU rfl T.ex_BadWish rfl rfl (fun cdv A outer s H E => pss_cons (ps_ost (pv 0) (pv 1)) (pss_one (ps_ost (pv 0) (pv 2))))
theorem ok__law_pool (T : Tx K mg aa1 aa2 aa3 aa4 aa5 aa6 aa7 aa8 aa9 aa10 aa11 aa12 aa13 aa14 aa15 aa16 aa17 aa18 aa19 aa20 aa21 aa22 aa23 aa24 aa25 aa26 aa27 aa28 aa29 aa30 aa31 aa32 aa33 aa34 aa35 aa36 aa37 aa38 aa39 aa40 aa41 aa42 aa43 aa44 aa45 A_Depot A_OutagainError A_OutOfRange A_BadDepot A_BadWish p_Depot_size p_Depot_places dd1 dd2 dd3 dd4 dd5 dd6 dd7 dd8 dd9 dd10 dd11 dd12 dd13 dd14 dd15 dd16 dd17 dd18 dd19 dd20 dd21 dd22 dd23 dd24 dd25 dd26 dd27 dd28 dd29 dd30 dd31 dd32 dd33 dd34 dd35 dd36 dd37 dd38 dd39 dd40 dd41 dd42 dd43 dd44 dd45) : FnOk P w K mg base (L2.CX P w) 1 aa1 dd1 ["script"] (liftSp ⟨K, mg⟩ w__law_pool 1) :=
  fn_newPool (N := ["script"]) (ps := ["script"]) (k := 0) (pe := (pLst (pCons (pC (.int 0)) (pCons (pC (.int 1)) (pCons (pC (.int 0)) (pCons (pC (.int 0)) (pCons (pCB fList (pCons (pVar 0) pNil)) pNil))))))) T.F__law_pool sc__law_pool rfl rfl (fun cdv A outer s H E hr => ⟨_, lo_lst (la_cons lx_int (la_cons lx_int (la_cons lx_int (la_cons lx_int (la_cons (LO.x (lo_callT call_list_of cl_list rfl T.n_list bb_list (lw_cons (LX.v (lx_var 0)) lw_nil))) la_nil)))))⟩) (fun ns P h => by simpa [pLst, pCons, pNil, pC, pCB, fList, pVarV, pVar, startD, szl] using h)
theorem ok__law_take (T : Tx K mg aa1 aa2 aa3 aa4 aa5 aa6 aa7 aa8 aa9 aa10 aa11 aa12 aa13 aa14 aa15 aa16 aa17 aa18 aa19 aa20 aa21 aa22 aa23 aa24 aa25 aa26 aa27 aa28 aa29 aa30 aa31 aa32 aa33 aa34 aa35 aa36 aa37 aa38 aa39 aa40 aa41 aa42 aa43 aa44 aa45 A_Depot A_OutagainError A_OutOfRange A_BadDepot A_BadWish p_Depot_size p_Depot_places dd1 dd2 dd3 dd4 dd5 dd6 dd7 dd8 dd9 dd10 dd11 dd12 dd13 dd14 dd15 dd16 dd17 dd18 dd19 dd20 dd21 dd22 dd23 dd24 dd25 dd26 dd27 dd28 dd29 dd30 dd31 dd32 dd33 dd34 dd35 dd36 dd37 dd38 dd39 dd40 dd41 dd42 dd43 dd44 dd45) : FnOk P w K mg base (L2.CX P w) 1 aa2 dd2 ["pool", "limit"] (liftSp ⟨K, mg⟩ w__law_take 2) :=
  fn_mkPl (N := ["pool", "limit", "cell", "got", "k", "mixed"]) (ps := ["pool", "limit"]) (k := 0) (pb := b__law_take) T.F__law_take sc__law_take (by decide) fun cdv A outer s H E hr => ⟨_, (lss_cons (ls_if (LWt.t (lw_and (lt_cmp (op_eqD hr.units) ol_eq (LX.v (lx_ix (lv_var 0) (LX.v lx_int) (fun _ _ => rfl))) (LX.v lx_int) (nomark _)) (lw_and1 (lt_cmp L2.op_lt ol_lt (LX.v (lx_ix (lv_var 0) (LX.v lx_int) (fun _ _ => rfl))) (LX.v (lx_callB call_len cl_len rfl T.n_len bb_len (lw_cons (LX.v (lx_ix (lv_var 0) (LX.v lx_int) (fun _ _ => rfl))) lw_nil))) (nomark _))))) (lss_cons (ls_set 2 sc__law_take.nd (lx_callB call_abs cl_abs rfl T.n_abs bb_abs (lw_cons (LX.v (lx_ix (LX.v (lx_ix (lv_var 0) (LX.v lx_int) (fun _ _ => rfl))) (LX.v (lx_ix (lv_var 0) (LX.v lx_int) (fun _ _ => rfl))) (fun _ _ => rfl))) lw_nil)))
 (lss_cons (ls_setI 0 (lx_bin op_addAll ol_add (LX.v (lx_ix (lv_var 0) (LX.v lx_int) (fun _ _ => rfl))) (LX.v lx_int)) lx_int)
 (lss_one (ls_if (lt_cmp L2.op_ge ol_ge (LX.v (lx_var 2)) (LX.v (lx_bin op_pow ol_pow (LX.v lx_int) (LX.v lx_int))) (nomark _)) (lss_one (ls_setI 0 (lx_var 2) lx_int)) (lss_one (ls_setI 0 (lx_bin op_mod ol_mod (LX.v (lx_callT call_int1 cl_int rfl T.n_int bb_int (lw_cons (LX.v (lx_bin op_addAll ol_add (LX.v (lx_bin op_addAll ol_add (LX.v (lx_bin op_mulAll ol_mul (LX.v (lx_ix (lv_var 0) (LX.v lx_int) (fun _ _ => rfl))) (LX.v lx_int))) (LX.v (lx_var 2)))) (LX.v lx_int))) lw_nil))) (LX.v lx_int)) lx_int)))))) lss_nil)
 (lss_cons (ls_if (lt_cmp L2.op_gt ol_gt (LX.v (lx_ix (lv_var 0) (LX.v lx_int) (fun _ _ => rfl))) (LX.v lx_int) (nomark _)) (lss_cons (ls_set 3 sc__law_take.nd (lx_bin op_mod ol_mod (LX.v (lx_callT call_int1 cl_int rfl T.n_int bb_int (lw_cons (LX.v (lx_ix (lv_var 0) (LX.v lx_int) (fun _ _ => rfl))) lw_nil))) (LX.v (lx_var 1))))
 (lss_cons (ls_setI 0 (lx_bin op_fdivW ol_div (LX.v (lx_ix (lv_var 0) (LX.v lx_int) (fun _ _ => rfl))) (LX.v (lx_var 1))) lx_int)
 (lss_one (ls_ret (lx_var 3))))) lss_nil)
 (lss_cons (ls_set 4 sc__law_take.nd (lx_bin op_addAll ol_add (LX.v (lx_ix (lv_var 0) (LX.v lx_int) (fun _ _ => rfl))) (LX.v lx_int)))
 (lss_cons (ls_setI 0 (lx_var 4) lx_int)
 (lss_cons (ls_set 5 sc__law_take.nd (lx_ix (lv_var 0) (LX.v lx_int) (fun _ _ => rfl)))
 (lss_cons (ls_set 5 sc__law_take.nd (lx_bin op_mod ol_mod (LX.v (lx_callT call_int1 cl_int rfl T.n_int bb_int (lw_cons (LX.v (lx_bin op_addAll ol_add (LX.v (lx_bin op_addAll ol_add (LX.v (lx_bin op_mulAll ol_mul (LX.v (lx_var 5)) (LX.v (lx_var 5)))) (LX.v (lx_bin op_mulAll ol_mul (LX.v (lx_var 4)) (LX.v lx_int))))) (LX.v lx_int))) lw_nil))) (LX.v lx_int)))
 (lss_cons (ls_set 5 sc__law_take.nd (lx_bin op_mod ol_mod (LX.v (lx_callT call_int1 cl_int rfl T.n_int bb_int (lw_cons (LX.v (lx_bin op_addAll ol_add (LX.v (lx_bin op_mulAll ol_mul (LX.v (lx_var 5)) (LX.v (lx_var 5)))) (LX.v (lx_bin op_fdivW ol_div (LX.v (lx_var 5)) (LX.v lx_int))))) lw_nil))) (LX.v lx_int)))
 (lss_cons (ls_setI 0 (lx_var 5) lx_int)
 (lss_one (ls_ret (lx_bin op_mod ol_mod (LX.v (lx_callT call_int1 cl_int rfl T.n_int bb_int (lw_cons (LX.v (lx_bin op_fdivW ol_div (LX.v (lx_var 5)) (LX.v lx_int))) lw_nil))) (LX.v (lx_var 1)))))))))))))⟩
theorem ok__law_depot (T : Tx K mg aa1 aa2 aa3 aa4 aa5 aa6 aa7 aa8 aa9 aa10 aa11 aa12 aa13 aa14 aa15 aa16 aa17 aa18 aa19 aa20 aa21 aa22 aa23 aa24 aa25 aa26 aa27 aa28 aa29 aa30 aa31 aa32 aa33 aa34 aa35 aa36 aa37 aa38 aa39 aa40 aa41 aa42 aa43 aa44 aa45 A_Depot A_OutagainError A_OutOfRange A_BadDepot A_BadWish p_Depot_size p_Depot_places dd1 dd2 dd3 dd4 dd5 dd6 dd7 dd8 dd9 dd10 dd11 dd12 dd13 dd14 dd15 dd16 dd17 dd18 dd19 dd20 dd21 dd22 dd23 dd24 dd25 dd26 dd27 dd28 dd29 dd30 dd31 dd32 dd33 dd34 dd35 dd36 dd37 dd38 dd39 dd40 dd41 dd42 dd43 dd44 dd45) : FnOk P w K mg base (L2.CX P w) 2 aa3 dd3 ["pool", "drivers", "period"] (liftSp ⟨K, mg⟩ w__law_depot 3) :=
  fn_mk (N := ["pool", "drivers", "period", "m", "n", "q", "firsts", "k"]) (ps := ["pool", "drivers", "period"]) (k := 1) (pb := b__law_depot) T.F__law_depot sc__law_depot fun cdv A outer s H E hr => ⟨_, (lss_cons (ls_set 3 sc__law_depot.nd (lx_bin op_addAll ol_add (LX.v lx_int) (LX.v (lx_call (takes_of rfl rfl rfl rfl) (ok__law_take T) (hr.mono (by first | decide | omega)) rfl T.G__law_take T.K__law_take T.B__law_take (lan_cons (lx_var 0) (lan_cons (lx_var 2) lan_nil))))))
 (lss_cons (ls_set 4 sc__law_depot.nd (lx_bin op_addAll ol_add (LX.v lx_int) (LX.v (lx_call (takes_of rfl rfl rfl rfl) (ok__law_take T) (hr.mono (by first | decide | omega)) rfl T.G__law_take T.K__law_take T.B__law_take (lan_cons (lx_var 0) (lan_cons (lx_var 1) lan_nil))))))
 (lss_cons (ls_set 5 sc__law_depot.nd (lx_bin op_addAll ol_add (LX.v lx_int) (LX.v (lx_call (takes_of rfl rfl rfl rfl) (ok__law_take T) (hr.mono (by first | decide | omega)) rfl T.G__law_take T.K__law_take T.B__law_take (lan_cons (lx_var 0) (lan_cons (lx_var 4) lan_nil))))))
 (lss_cons (ls_if (lt_cmp L2.op_gt ol_gt (LX.v (lx_call (takes_of rfl rfl rfl rfl) (ok__law_take T) (hr.mono (by first | decide | omega)) rfl T.G__law_take T.K__law_take T.B__law_take (lan_cons (lx_var 0) (lan_cons lx_int lan_nil)))) (LX.v lx_int) (nomark _)) (lss_one (ls_set 5 sc__law_depot.nd (lx_bin op_addAll ol_add (LX.v lx_int) (LX.v (lx_call (takes_of rfl rfl rfl rfl) (ok__law_take T) (hr.mono (by first | decide | omega)) rfl T.G__law_take T.K__law_take T.B__law_take (lan_cons (lx_var 0) (lan_cons (lx_callB (call_min2 rfl) cl_min2 rfl T.n_min bb_min (lw_cons (LX.v (lx_var 4)) (lw_cons (LX.v lx_int) lw_nil))) lan_nil))))))) lss_nil)
 (lss_cons (ls_setO 6 sc__law_depot.nd (lo_bin op_rep olo_rep (LO.v (lo_lst (la_cons lx_int la_nil))) (LX.v (lx_var 5))))
 (lss_cons (ls_for (passes_of rfl) rfl (li_range1 rfl T.n_range (lx_bin op_sub ol_sub (LX.v (lx_var 4)) (LX.v (lx_var 5)))) (lg_name 7 sc__law_depot.nd) (lss_one (ls_ins 6 (lx_call (takes_of rfl rfl rfl rfl) (ok__law_take T) (hr.mono (by first | decide | omega)) rfl T.G__law_take T.K__law_take T.B__law_take (lan_cons (lx_var 0) (lan_cons (lx_bin op_addAll ol_add (LX.v (lx_callB call_len cl_len rfl T.n_len bb_len (lw_cons (lv_var 6) lw_nil))) (LX.v lx_int)) lan_nil))) (lx_bin op_addAll ol_add (LX.v lx_int) (LX.v (lx_call (takes_of rfl rfl rfl rfl) (ok__law_take T) (hr.mono (by first | decide | omega)) rfl T.G__law_take T.K__law_take T.B__law_take (lan_cons (lx_var 0) (lan_cons (lx_var 3) lan_nil))))))))
 (lss_one (ls_freeze 6 (ls_ret (LO.x (lo_lst (la_cons (lx_var 3) (la_cons (lx_var 5) (la_cons (lx_var 6) la_nil))))))))))))))⟩
theorem ok__law_spots (T : Tx K mg aa1 aa2 aa3 aa4 aa5 aa6 aa7 aa8 aa9 aa10 aa11 aa12 aa13 aa14 aa15 aa16 aa17 aa18 aa19 aa20 aa21 aa22 aa23 aa24 aa25 aa26 aa27 aa28 aa29 aa30 aa31 aa32 aa33 aa34 aa35 aa36 aa37 aa38 aa39 aa40 aa41 aa42 aa43 aa44 aa45 A_Depot A_OutagainError A_OutOfRange A_BadDepot A_BadWish p_Depot_size p_Depot_places dd1 dd2 dd3 dd4 dd5 dd6 dd7 dd8 dd9 dd10 dd11 dd12 dd13 dd14 dd15 dd16 dd17 dd18 dd19 dd20 dd21 dd22 dd23 dd24 dd25 dd26 dd27 dd28 dd29 dd30 dd31 dd32 dd33 dd34 dd35 dd36 dd37 dd38 dd39 dd40 dd41 dd42 dd43 dd44 dd45) : FnOk P w K mg base (L2.CX P w) 1 aa4 dd4 ["plan"] (liftSp ⟨K, mg⟩ w__law_spots 1) :=
  fn_mk (N := ["plan", "row", "first"]) (ps := ["plan"]) (k := 0) (pb := b__law_spots) T.F__law_spots sc__law_spots fun cdv A outer s H E hr => ⟨_, (lss_cons (ls_setO 1 sc__law_spots.nd (lo_bin op_rep olo_rep (LO.v (lo_lst (la_cons lx_int la_nil))) (LX.v (lx_bin op_addAll ol_add (LX.v (lx_ix (LX.v (lx_var 0)) (LX.v lx_int) (fun _ _ => rfl))) (LX.v lx_int)))))
 (lss_cons (ls_for (passes_of rfl) rfl (li_seq (lx_ix (LX.v (lx_var 0)) (LX.v lx_int) (fun _ _ => rfl))) (lg_name 2 sc__law_spots.nd) (lss_one (ls_setI 1 (lx_bin op_addAll ol_add (LX.v (lx_ix (lv_var 1) (LX.v (lx_var 2)) (fun _ _ => rfl))) (LX.v lx_int)) (lx_var 2))))
 (lss_cons (ls_setI 1 (lx_bin op_sub ol_sub (LX.v (lx_ix (lv_var 1) (LX.v lx_int) (fun _ _ => rfl))) (LX.v (lx_ix (LX.v (lx_var 0)) (LX.v lx_int) (fun _ _ => rfl)))) lx_int)
 (lss_one (ls_freeze 1 (ls_ret (lx_var 1)))))))⟩
theorem ok__law_due_spots (T : Tx K mg aa1 aa2 aa3 aa4 aa5 aa6 aa7 aa8 aa9 aa10 aa11 aa12 aa13 aa14 aa15 aa16 aa17 aa18 aa19 aa20 aa21 aa22 aa23 aa24 aa25 aa26 aa27 aa28 aa29 aa30 aa31 aa32 aa33 aa34 aa35 aa36 aa37 aa38 aa39 aa40 aa41 aa42 aa43 aa44 aa45 A_Depot A_OutagainError A_OutOfRange A_BadDepot A_BadWish p_Depot_size p_Depot_places dd1 dd2 dd3 dd4 dd5 dd6 dd7 dd8 dd9 dd10 dd11 dd12 dd13 dd14 dd15 dd16 dd17 dd18 dd19 dd20 dd21 dd22 dd23 dd24 dd25 dd26 dd27 dd28 dd29 dd30 dd31 dd32 dd33 dd34 dd35 dd36 dd37 dd38 dd39 dd40 dd41 dd42 dd43 dd44 dd45) : FnOk P w K mg base (L2.CX P w) 2 aa5 dd5 ["plan", "span"] (liftSp ⟨K, mg⟩ w__law_due_spots 2) :=
  fn_mk (N := ["plan", "span", "row", "z"]) (ps := ["plan", "span"]) (k := 1) (pb := b__law_due_spots) T.F__law_due_spots sc__law_due_spots fun cdv A outer s H E hr => ⟨_, (lss_cons (ls_asgV 2 [true, false, false, false] sc__law_due_spots.nd (lx_call (takes_of rfl rfl rfl rfl) (ok__law_spots T) (hr.mono (by first | decide | omega)) rfl T.G__law_spots T.K__law_spots T.B__law_spots (lan_cons (lx_var 0) lan_nil)))
 (lss_cons (ls_set 3 sc__law_due_spots.nd (lx_bin op_addAll ol_add (LX.v (lx_bin op_mod ol_mod (LX.v (lx_callT call_int1 cl_int rfl T.n_int bb_int (lw_cons (LX.v (lx_var 1)) lw_nil))) (LX.v (lx_ix (LX.v (lx_var 0)) (LX.v lx_int) (fun _ _ => rfl))))) (LX.v lx_int)))
 (lss_cons (ls_setI 2 (lx_bin op_addAll ol_add (LX.v (lx_ix (lv_var 2) (LX.v (lx_var 3)) (fun _ _ => rfl))) (LX.v (lx_ix (LX.v (lx_var 0)) (LX.v lx_int) (fun _ _ => rfl)))) (lx_var 3))
 (lss_one (ls_freeze 2 (ls_ret (lx_var 2)))))))⟩
theorem ok__law_dealing (T : Tx K mg aa1 aa2 aa3 aa4 aa5 aa6 aa7 aa8 aa9 aa10 aa11 aa12 aa13 aa14 aa15 aa16 aa17 aa18 aa19 aa20 aa21 aa22 aa23 aa24 aa25 aa26 aa27 aa28 aa29 aa30 aa31 aa32 aa33 aa34 aa35 aa36 aa37 aa38 aa39 aa40 aa41 aa42 aa43 aa44 aa45 A_Depot A_OutagainError A_OutOfRange A_BadDepot A_BadWish p_Depot_size p_Depot_places dd1 dd2 dd3 dd4 dd5 dd6 dd7 dd8 dd9 dd10 dd11 dd12 dd13 dd14 dd15 dd16 dd17 dd18 dd19 dd20 dd21 dd22 dd23 dd24 dd25 dd26 dd27 dd28 dd29 dd30 dd31 dd32 dd33 dd34 dd35 dd36 dd37 dd38 dd39 dd40 dd41 dd42 dd43 dd44 dd45) : FnOk P w K mg base (L2.CX P w) 3 aa6 dd6 ["pool", "plan", "span"] (liftSp ⟨K, mg⟩ w__law_dealing 3) :=
  fn_mk (N := ["pool", "plan", "span", "due", "spots", "c", "k", "row", "first"]) (ps := ["pool", "plan", "span"]) (k := 2) (pb := b__law_dealing) T.F__law_dealing sc__law_dealing fun cdv A outer s H E hr => ⟨_, (lss_cons (ls_set 3 sc__law_dealing.nd (lx_call (takes_of rfl rfl rfl rfl) (ok__law_due_spots T) (hr.mono (by first | decide | omega)) rfl T.G__law_due_spots T.K__law_due_spots T.B__law_due_spots (lan_cons (lx_var 1) (lan_cons (lx_var 2) lan_nil))))
 (lss_cons (ls_setO 4 sc__law_dealing.nd (lo_lst la_nil))
 (lss_cons (ls_for (passes_of rfl) rfl (li_range2 rfl T.n_range lx_int (lx_bin op_addAll ol_add (LX.v (lx_ix (LX.v (lx_var 1)) (LX.v lx_int) (fun _ _ => rfl))) (LX.v lx_int))) (lg_name 5 sc__law_dealing.nd) (lss_one (ls_ext 4 (LO.x (lo_lc (own := [("k", 6)]) rfl sc__law_dealing.nd (li_range1 rfl T.n_range (lx_ix (LX.v (lx_var 3)) (LX.v (lx_var 5)) (fun _ _ => rfl))) (blkOk_by (N := ["pool", "plan", "span", "due", "spots", "c", "k", "row", "first"]) (sc := defScope s__law_dealing) (by decide +kernel)) (fun _ _ _ _ _ => ⟨_, (lg_name 6 sc__law_dealing.nd)⟩) (fun _ _ _ _ _ => ⟨_, lts_nil⟩) (fun _ _ _ _ _ => ⟨_, (lx_var 5)⟩) (by decide))))))
 (lss_cons (ls_setO 7 sc__law_dealing.nd (lo_lst la_nil))
 (lss_cons (ls_for (passes_of rfl) rfl (li_seq (lx_ix (LX.v (lx_var 1)) (LX.v lx_int) (fun _ _ => rfl))) (lg_name 8 sc__law_dealing.nd) (lss_one (ls_appM 7 (lxm_popAt 4 (lx_call (takes_of rfl rfl rfl rfl) (ok__law_take T) (hr.mono (by first | decide | omega)) rfl T.G__law_take T.K__law_take T.B__law_take (lan_cons (lx_var 0) (lan_cons (lx_callB call_len cl_len rfl T.n_len bb_len (lw_cons (lv_var 4) lw_nil)) lan_nil)))))))
 (lss_one (ls_freeze 7 (ls_ret (lx_var 7)))))))))⟩
theorem ok__law_everybody (T : Tx K mg aa1 aa2 aa3 aa4 aa5 aa6 aa7 aa8 aa9 aa10 aa11 aa12 aa13 aa14 aa15 aa16 aa17 aa18 aa19 aa20 aa21 aa22 aa23 aa24 aa25 aa26 aa27 aa28 aa29 aa30 aa31 aa32 aa33 aa34 aa35 aa36 aa37 aa38 aa39 aa40 aa41 aa42 aa43 aa44 aa45 A_Depot A_OutagainError A_OutOfRange A_BadDepot A_BadWish p_Depot_size p_Depot_places dd1 dd2 dd3 dd4 dd5 dd6 dd7 dd8 dd9 dd10 dd11 dd12 dd13 dd14 dd15 dd16 dd17 dd18 dd19 dd20 dd21 dd22 dd23 dd24 dd25 dd26 dd27 dd28 dd29 dd30 dd31 dd32 dd33 dd34 dd35 dd36 dd37 dd38 dd39 dd40 dd41 dd42 dd43 dd44 dd45) : FnOk P w K mg base (L2.CX P w) 4 aa7 dd7 ["pool", "plan", "span"] (liftSp ⟨K, mg⟩ w__law_everybody 3) :=
  fn_mk (N := ["pool", "plan", "span", "way", "first", "row", "low", "late", "i", "spots", "k", "j", "kept"]) (ps := ["pool", "plan", "span"]) (k := 3) (pb := b__law_everybody) T.F__law_everybody sc__law_everybody fun cdv A outer s H E hr => ⟨_, (lss_cons (ls_set 3 sc__law_everybody.nd (lx_call (takes_of rfl rfl rfl rfl) (ok__law_take T) (hr.mono (by first | decide | omega)) rfl T.G__law_take T.K__law_take T.B__law_take (lan_cons (lx_var 0) (lan_cons lx_int lan_nil))))
 (lss_cons (ls_if (lt_cmp (op_eqD hr.units) ol_eq (LX.v (lx_var 3)) (LX.v lx_int) (nomark _)) (lss_one (ls_ret (LO.x (lo_lc (own := [("first", 4)]) rfl sc__law_everybody.nd (li_seq (lx_ix (LX.v (lx_var 1)) (LX.v lx_int) (fun _ _ => rfl))) (blkOk_by (N := ["pool", "plan", "span", "way", "first", "row", "low", "late", "i", "spots", "k", "j", "kept"]) (sc := defScope s__law_everybody) (by decide +kernel)) (fun _ _ _ _ _ => ⟨_, (lg_name 4 sc__law_everybody.nd)⟩) (fun _ _ _ _ _ => ⟨_, lts_nil⟩) (fun _ _ _ _ _ => ⟨_, (lx_bin op_addAll ol_add (LX.v lx_int) (LX.v (lx_call (W := WN) takes0 (ok__law_take T) (hr.mono (by first | decide | omega)) rfl T.G__law_take T.K__law_take T.B__law_take (lan_cons (lx_var 0) (lan_cons (lx_ix (LX.v (lx_var 1)) (LX.v lx_int) (fun _ _ => rfl)) lan_nil)))))⟩) (by decide))))) lss_nil)
 (lss_cons (ls_asgV 5 [true, true, true, false, false, false, false, false, false, false, false, false, false] sc__law_everybody.nd (lx_call (takes_of rfl rfl rfl rfl) (ok__law_dealing T) (hr.mono (by first | decide | omega)) rfl T.G__law_dealing T.K__law_dealing T.B__law_dealing (lan_cons (lx_var 0) (lan_cons (lx_var 1) (lan_cons (lx_var 2) lan_nil)))))
 (lss_cons (ls_if (lt_cmp (op_eqD hr.units) ol_eq (LX.v (lx_var 3)) (LX.v lx_int) (nomark _)) (lss_one (ls_freeze 5 (ls_ret (lx_var 5)))) lss_nil)
 (lss_cons (ls_set 6 sc__law_everybody.nd lx_int)
 (lss_cons (ls_if (lt_cmp (op_eqD hr.units) ol_eq (LX.v (lx_var 3)) (LX.v lx_int) (nomark _)) (lss_one (ls_set 6 sc__law_everybody.nd (lx_callB call_len cl_len rfl T.n_len bb_len (lw_cons (LO.v (lo_lc (own := [("first", 4)]) rfl sc__law_everybody.nd (li_seq (lx_ix (LX.v (lx_var 1)) (LX.v lx_int) (fun _ _ => rfl))) (blkOk_by (N := ["pool", "plan", "span", "way", "first", "row", "low", "late", "i", "spots", "k", "j", "kept"]) (sc := defScope s__law_everybody) (by decide +kernel)) (fun _ _ _ _ _ => ⟨_, (lg_name 4 sc__law_everybody.nd)⟩) (fun _ _ _ _ _ => ⟨_, (lts_one (lt_cmp L2.op_le ol_le (LX.v (lx_var 4)) (LX.v (lx_bin op_addAll ol_add (LX.v (lx_bin op_mod ol_mod (LX.v (lx_callT call_int1 cl_int rfl T.n_int bb_int (lw_cons (LX.v (lx_var 2)) lw_nil))) (LX.v (lx_ix (LX.v (lx_var 1)) (LX.v lx_int) (fun _ _ => rfl))))) (LX.v lx_int))) (nomark _)))⟩) (fun _ _ _ _ _ => ⟨_, (lx_var 4)⟩) (by decide))) lw_nil)))) lss_nil)
 (lss_cons (ls_set 7 sc__law_everybody.nd (LO.x (lo_callB cr_sortPr cl_sortPr rfl T.n_sorted bb_sorted (lw_cons (LO.v (lo_lc (own := [("i", 8)]) rfl sc__law_everybody.nd (li_range1 rfl T.n_range (lx_callB call_len cl_len rfl T.n_len bb_len (lw_cons (lv_var 5) lw_nil))) (blkOk_by (N := ["pool", "plan", "span", "way", "first", "row", "low", "late", "i", "spots", "k", "j", "kept"]) (sc := defScope s__law_everybody) (by decide +kernel)) (fun _ _ _ _ _ => ⟨_, (lg_name 8 sc__law_everybody.nd)⟩) (fun _ _ _ _ _ => ⟨_, lts_nil⟩) (fun _ _ _ _ _ => ⟨_, (lx_tup (la_cons (lx_ix (LX.v (lx_ix (LX.v (lx_var 1)) (LX.v lx_int) (fun _ _ => rfl))) (LX.v (lx_var 8)) (fun _ _ => rfl)) (la_cons (lx_var 8) la_nil)))⟩) (by decide))) lw_nil))))
 (lss_cons (ls_set 7 sc__law_everybody.nd (lx_bin op_addAll ol_add (LX.v (lx_slice (LX.v (lx_var 7)) lp_none (lp_some (lx_var 6)))) (LX.v (lx_revL (LX.v (lx_slice (LX.v (lx_var 7)) (lp_some (lx_var 6)) lp_none))))))
 (lss_cons (ls_set 9 sc__law_everybody.nd (LO.x (lo_callB cr_sortedI cl_sortI rfl T.n_sorted bb_sorted (lw_cons (lv_var 5) lw_nil))))
 (lss_cons (ls_for (passes_of rfl) rfl (li_range1 rfl T.n_range (lx_callB call_len cl_len rfl T.n_len bb_len (lw_cons (lv_var 5) lw_nil))) (lg_name 10 sc__law_everybody.nd) (lss_one (ls_setI 5 (lx_ix (LX.v (lx_var 9)) (LX.v (lx_var 10)) (fun _ _ => rfl)) (lx_ix (LX.v (lx_ix (LX.v (lx_var 7)) (LX.v (lx_var 10)) (fun _ _ => rfl))) (LX.v lx_int) (fun _ _ => rfl)))))
 (lss_cons (ls_for (passes_of rfl) rfl (li_range1 rfl T.n_range (lx_call (takes_of rfl rfl rfl rfl) (ok__law_take T) (hr.mono (by first | decide | omega)) rfl T.G__law_take T.K__law_take T.B__law_take (lan_cons (lx_var 0) (lan_cons lx_int lan_nil)))) (lg_name 10 sc__law_everybody.nd) (lss_cons (ls_set 8 sc__law_everybody.nd (lx_call (takes_of rfl rfl rfl rfl) (ok__law_take T) (hr.mono (by first | decide | omega)) rfl T.G__law_take T.K__law_take T.B__law_take (lan_cons (lx_var 0) (lan_cons (lx_callB call_len cl_len rfl T.n_len bb_len (lw_cons (lv_var 5) lw_nil)) lan_nil))))
 (lss_cons (ls_set 11 sc__law_everybody.nd (lx_call (takes_of rfl rfl rfl rfl) (ok__law_take T) (hr.mono (by first | decide | omega)) rfl T.G__law_take T.K__law_take T.B__law_take (lan_cons (lx_var 0) (lan_cons (lx_callB call_len cl_len rfl T.n_len bb_len (lw_cons (lv_var 5) lw_nil)) lan_nil))))
 (lss_cons (ls_set 12 sc__law_everybody.nd (lx_ix (lv_var 5) (LX.v (lx_var 8)) (fun _ _ => rfl)))
 (lss_cons (ls_setI 5 (lx_ix (lv_var 5) (LX.v (lx_var 11)) (fun _ _ => rfl)) (lx_var 8))
 (lss_one (ls_setI 5 (lx_var 12) (lx_var 11))))))))
 (lss_one (ls_freeze 5 (ls_ret (lx_var 5)))))))))))))))⟩
theorem ok__law_fewest (T : Tx K mg aa1 aa2 aa3 aa4 aa5 aa6 aa7 aa8 aa9 aa10 aa11 aa12 aa13 aa14 aa15 aa16 aa17 aa18 aa19 aa20 aa21 aa22 aa23 aa24 aa25 aa26 aa27 aa28 aa29 aa30 aa31 aa32 aa33 aa34 aa35 aa36 aa37 aa38 aa39 aa40 aa41 aa42 aa43 aa44 aa45 A_Depot A_OutagainError A_OutOfRange A_BadDepot A_BadWish p_Depot_size p_Depot_places dd1 dd2 dd3 dd4 dd5 dd6 dd7 dd8 dd9 dd10 dd11 dd12 dd13 dd14 dd15 dd16 dd17 dd18 dd19 dd20 dd21 dd22 dd23 dd24 dd25 dd26 dd27 dd28 dd29 dd30 dd31 dd32 dd33 dd34 dd35 dd36 dd37 dd38 dd39 dd40 dd41 dd42 dd43 dd44 dd45) : FnOk P w K mg base (L2.CX P w) 1 aa8 dd8 ["plan", "z", "wish"] (liftSp ⟨K, mg⟩ w__law_fewest 3) :=
  fn_mk (N := ["plan", "z", "wish", "back", "i", "behind", "j"]) (ps := ["plan", "z", "wish"]) (k := 0) (pb := b__law_fewest) T.F__law_fewest sc__law_fewest fun cdv A outer s H E hr => ⟨_, (lss_cons (ls_setLc 3 (own := [("i", 4)]) rfl sc__law_fewest.nd (li_range1 rfl T.n_range (lx_callB call_len cl_len rfl T.n_len bb_len (lw_cons (LX.v (lx_var 2)) lw_nil))) (blkOk_by (N := ["plan", "z", "wish", "back", "i", "behind", "j"]) (sc := defScope s__law_fewest) (by decide +kernel)) (fun _ _ _ _ _ => ⟨_, (lg_name 4 sc__law_fewest.nd)⟩) (fun _ _ _ _ _ => ⟨_, (lts_one (lt_cmp L2.op_lt ol_lt (LX.v (lx_ix (LX.v (lx_var 2)) (LX.v (lx_var 4)) (fun _ _ => rfl))) (LX.v (lx_ix (LX.v (lx_ix (LX.v (lx_var 0)) (LX.v lx_int) (fun _ _ => rfl))) (LX.v (lx_var 4)) (fun _ _ => rfl))) (nomark _)))⟩) (fun _ _ _ _ _ => ⟨_, (lx_var 4)⟩) (by decide))
 (lss_cons (ls_setLc 5 (own := [("i", 4)]) rfl sc__law_fewest.nd (li_seq (lx_var 3)) (blkOk_by (N := ["plan", "z", "wish", "back", "i", "behind", "j"]) (sc := defScope s__law_fewest) (by decide +kernel)) (fun _ _ _ _ _ => ⟨_, (lg_name 4 sc__law_fewest.nd)⟩) (fun _ _ _ _ _ => ⟨_, (lts_one (lt_cmp L2.op_gt ol_gt (LX.v (lx_ix (LX.v (lx_var 2)) (LX.v (lx_var 4)) (fun _ _ => rfl))) (LX.v (lx_var 1)) (nomark _)))⟩) (fun _ _ _ _ _ => ⟨_, (lx_var 4)⟩) (by decide))
 (lss_cons (ls_for (passes_of rfl) rfl (li_range1 rfl T.n_range lx_int) (lg_name 6 sc__law_fewest.nd) (lss_one (ls_if (LWt.t (lw_and (lt_cmp L2.op_le ol_le (LX.v (lx_callB call_len cl_len rfl T.n_len bb_len (lw_cons (LX.v (lx_var 3)) lw_nil))) (LX.v (lx_bin op_mulAll ol_mul (LX.v (lx_ix (LX.v (lx_var 0)) (LX.v lx_int) (fun _ _ => rfl))) (LX.v (lx_var 6)))) (nomark _)) (lw_and1 (lt_cmp L2.op_le ol_le (LX.v (lx_callB call_len cl_len rfl T.n_len bb_len (lw_cons (LX.v (lx_var 5)) lw_nil))) (LX.v (lx_bin op_mulAll ol_mul (LX.v (lx_ix (LX.v (lx_var 0)) (LX.v lx_int) (fun _ _ => rfl))) (LX.v (lx_callB (call_max2 rfl) cl_max2 rfl T.n_max bb_max (lw_cons (LX.v lx_int) (lw_cons (LX.v (lx_bin op_sub ol_sub (LX.v (lx_var 6)) (LX.v lx_int))) lw_nil)))))) (nomark _))))) (lss_one (ls_ret (lx_var 6))) lss_nil)))
 (lss_one (ls_ret lx_int)))))⟩
theorem ok_check_period_and_quota (T : Tx K mg aa1 aa2 aa3 aa4 aa5 aa6 aa7 aa8 aa9 aa10 aa11 aa12 aa13 aa14 aa15 aa16 aa17 aa18 aa19 aa20 aa21 aa22 aa23 aa24 aa25 aa26 aa27 aa28 aa29 aa30 aa31 aa32 aa33 aa34 aa35 aa36 aa37 aa38 aa39 aa40 aa41 aa42 aa43 aa44 aa45 A_Depot A_OutagainError A_OutOfRange A_BadDepot A_BadWish p_Depot_size p_Depot_places dd1 dd2 dd3 dd4 dd5 dd6 dd7 dd8 dd9 dd10 dd11 dd12 dd13 dd14 dd15 dd16 dd17 dd18 dd19 dd20 dd21 dd22 dd23 dd24 dd25 dd26 dd27 dd28 dd29 dd30 dd31 dd32 dd33 dd34 dd35 dd36 dd37 dd38 dd39 dd40 dd41 dd42 dd43 dd44 dd45) : FnOk P w K mg base (L2.CX P w) 3 aa9 dd9 ["period", "quota"] (liftSp ⟨K, mg⟩ w_check_period_and_quota 2) :=
  fn_mk (N := ["period", "quota"]) (ps := ["period", "quota"]) (k := 2) (pb := b_check_period_and_quota) T.F_check_period_and_quota sc_check_period_and_quota fun cdv A outer s H E hr => ⟨_, (lss_cons (ls_if (lt_not (lt_chain L2.op_le L2.op_le ol_le ol_le (LX.v lx_int) (LX.v (lx_var 0)) (LX.v (lx_cval (c := 0) T.cv_Depot_MOST_PERIOD rfl)))) (lss_one (ls_raise (c := 22) rfl (takes_of rfl rfl rfl rfl) T.ex_BadDepot (okx_BadDepot T) (hr.mono (by decide)) T.B_BadDepotU_initU rfl (lan_cons (lx_var 0) (lan_cons lx_str lan_nil)))) lss_nil)
 (lss_one (ls_if (lt_not (lt_chain L2.op_le L2.op_le ol_le ol_le (LX.v lx_int) (LX.v (lx_var 1)) (LX.v (lx_gint rfl T.g_MOST_QUOTA)))) (lss_one (ls_raise (c := 22) rfl (takes_of rfl rfl rfl rfl) T.ex_BadDepot (okx_BadDepot T) (hr.mono (by decide)) T.B_BadDepotU_initU rfl (lan_cons (lx_var 1) (lan_cons lx_str lan_nil)))) lss_nil)))⟩
theorem ok_check_firsts (T : Tx K mg aa1 aa2 aa3 aa4 aa5 aa6 aa7 aa8 aa9 aa10 aa11 aa12 aa13 aa14 aa15 aa16 aa17 aa18 aa19 aa20 aa21 aa22 aa23 aa24 aa25 aa26 aa27 aa28 aa29 aa30 aa31 aa32 aa33 aa34 aa35 aa36 aa37 aa38 aa39 aa40 aa41 aa42 aa43 aa44 aa45 A_Depot A_OutagainError A_OutOfRange A_BadDepot A_BadWish p_Depot_size p_Depot_places dd1 dd2 dd3 dd4 dd5 dd6 dd7 dd8 dd9 dd10 dd11 dd12 dd13 dd14 dd15 dd16 dd17 dd18 dd19 dd20 dd21 dd22 dd23 dd24 dd25 dd26 dd27 dd28 dd29 dd30 dd31 dd32 dd33 dd34 dd35 dd36 dd37 dd38 dd39 dd40 dd41 dd42 dd43 dd44 dd45) : FnOk P w K mg base (L2.CX P w) 3 aa10 dd10 ["period", "quota", "firsts"] (liftSp ⟨K, mg⟩ w_check_firsts 3) :=
  fn_mk (N := ["period", "quota", "firsts", "driver", "first", "ones"]) (ps := ["period", "quota", "firsts"]) (k := 2) (pb := b_check_firsts) T.F_check_firsts sc_check_firsts fun cdv A outer s H E hr => ⟨_, (lss_cons (ls_if (lt_not (lt_chain L2.op_le L2.op_le ol_le ol_le (LX.v lx_int) (LX.v (lx_callB call_len cl_len rfl T.n_len bb_len (lw_cons (LX.v (lx_var 2)) lw_nil))) (LX.v (lx_cval (c := 0) T.cv_Depot_MOST_DRIVERS rfl)))) (lss_one (ls_raise (c := 22) rfl (takes_of rfl rfl rfl rfl) T.ex_BadDepot (okx_BadDepot T) (hr.mono (by decide)) T.B_BadDepotU_initU rfl (lan_cons (lx_callB call_len cl_len rfl T.n_len bb_len (lw_cons (LX.v (lx_var 2)) lw_nil)) (lan_cons lx_str lan_nil)))) lss_nil)
 (lss_cons (ls_for (passes_of rfl) rfl (li_enum1 rfl T.n_enumerate (lx_var 2)) (lg_seq rfl (lgs_cons (lg_name 3 sc_check_firsts.nd) (lgs_cons (lg_name 4 sc_check_firsts.nd) lgs_nil))) (lss_one (ls_if (lt_not (lt_chain L2.op_le L2.op_le ol_le ol_le (LX.v lx_int) (LX.v (lx_var 4)) (LX.v (lx_var 0)))) (lss_one (ls_raise (c := 22) rfl (takes_of rfl rfl rfl rfl) T.ex_BadDepot (okx_BadDepot T) (hr.mono (by decide)) T.B_BadDepotU_initU rfl (lan_cons (lx_var 3) (lan_cons lx_str lan_nil)))) lss_nil)))
 (lss_cons (ls_set 5 sc_check_firsts.nd (lx_count (LX.v (lx_var 2)) lx_int))
 (lss_one (ls_if (lt_cmp L2.op_lt ol_lt (LX.v (lx_var 5)) (LX.v (lx_var 1)) (nomark _)) (lss_one (ls_raise (c := 22) rfl (takes_of rfl rfl rfl rfl) T.ex_BadDepot (okx_BadDepot T) (hr.mono (by decide)) T.B_BadDepotU_initU rfl (lan_cons (lx_var 5) (lan_cons lx_str lan_nil)))) lss_nil)))))⟩
theorem ok_DepotU_initU (T : Tx K mg aa1 aa2 aa3 aa4 aa5 aa6 aa7 aa8 aa9 aa10 aa11 aa12 aa13 aa14 aa15 aa16 aa17 aa18 aa19 aa20 aa21 aa22 aa23 aa24 aa25 aa26 aa27 aa28 aa29 aa30 aa31 aa32 aa33 aa34 aa35 aa36 aa37 aa38 aa39 aa40 aa41 aa42 aa43 aa44 aa45 A_Depot A_OutagainError A_OutOfRange A_BadDepot A_BadWish p_Depot_size p_Depot_places dd1 dd2 dd3 dd4 dd5 dd6 dd7 dd8 dd9 dd10 dd11 dd12 dd13 dd14 dd15 dd16 dd17 dd18 dd19 dd20 dd21 dd22 dd23 dd24 dd25 dd26 dd27 dd28 dd29 dd30 dd31 dd32 dd33 dd34 dd35 dd36 dd37 dd38 dd39 dd40 dd41 dd42 dd43 dd44 dd45) : FnOk P w K mg base (L2.CX P w) 4 aa11 dd11 ["self", "period", "quota", "firsts"] (liftInit ⟨K, mg⟩ 0 i_DepotU_initU 4) :=
  init_mk (N := ["self", "period", "quota", "firsts"]) (ps := ["self", "period", "quota", "firsts"]) (k := 3) (c := 0) (pb := b_DepotU_initU) T.F_DepotU_initU sc_DepotU_initU (by decide) fun cdv A outer s H E hr => ⟨_, (lss_cons (ls_expr (LX.v (lx_call (takes_of rfl rfl rfl rfl) (ok_check_period_and_quota T) (hr.mono (by first | decide | omega)) rfl T.G_check_period_and_quota T.K_check_period_and_quota T.B_check_period_and_quota (lan_cons (lx_var 1) (lan_cons (lx_var 2) lan_nil)))))
 (lss_cons (ls_expr (LX.v (lx_call (takes_of rfl rfl rfl rfl) (ok_check_firsts T) (hr.mono (by first | decide | omega)) rfl T.G_check_firsts T.K_check_firsts T.B_check_firsts (lan_cons (lx_var 1) (lan_cons (lx_var 2) (lan_cons (lx_var 3) lan_nil))))))
 (lss_cons (ls_setF 0 0 0 (lx_var 1) T.fa_Depot_period rfl (by decide) (by decide))
 (lss_cons (ls_setF 0 0 1 (lx_var 2) T.fa_Depot_quota rfl (by decide) (by decide))
 (lss_one (ls_setF 0 0 2 (lx_callT call_tupN cl_tuple rfl T.n_tuple bb_tuple (lw_cons (LX.v (lx_var 3)) lw_nil)) T.fa_Depot_firsts rfl (by decide) (by decide)))))))⟩
theorem ok__law_steep (T : Tx K mg aa1 aa2 aa3 aa4 aa5 aa6 aa7 aa8 aa9 aa10 aa11 aa12 aa13 aa14 aa15 aa16 aa17 aa18 aa19 aa20 aa21 aa22 aa23 aa24 aa25 aa26 aa27 aa28 aa29 aa30 aa31 aa32 aa33 aa34 aa35 aa36 aa37 aa38 aa39 aa40 aa41 aa42 aa43 aa44 aa45 A_Depot A_OutagainError A_OutOfRange A_BadDepot A_BadWish p_Depot_size p_Depot_places dd1 dd2 dd3 dd4 dd5 dd6 dd7 dd8 dd9 dd10 dd11 dd12 dd13 dd14 dd15 dd16 dd17 dd18 dd19 dd20 dd21 dd22 dd23 dd24 dd25 dd26 dd27 dd28 dd29 dd30 dd31 dd32 dd33 dd34 dd35 dd36 dd37 dd38 dd39 dd40 dd41 dd42 dd43 dd44 dd45) : FnOk P w K mg base (L2.CX P w) 2 aa12 dd12 ["pool", "period"] (liftSp ⟨K, mg⟩ w__law_steep 2) :=
  fn_mk (N := ["pool", "period", "m", "q", "firsts", "k"]) (ps := ["pool", "period"]) (k := 1) (pb := b__law_steep) T.F__law_steep sc__law_steep fun cdv A outer s H E hr => ⟨_, (lss_cons (ls_set 2 sc__law_steep.nd (lx_bin op_addAll ol_add (LX.v lx_int) (LX.v (lx_call (takes_of rfl rfl rfl rfl) (ok__law_take T) (hr.mono (by first | decide | omega)) rfl T.G__law_take T.K__law_take T.B__law_take (lan_cons (lx_var 0) (lan_cons (lx_bin op_sub ol_sub (LX.v (lx_var 1)) (LX.v lx_int)) lan_nil))))))
 (lss_cons (ls_set 3 sc__law_steep.nd (lx_bin op_addAll ol_add (LX.v lx_int) (LX.v (lx_call (takes_of rfl rfl rfl rfl) (ok__law_take T) (hr.mono (by first | decide | omega)) rfl T.G__law_take T.K__law_take T.B__law_take (lan_cons (lx_var 0) (lan_cons lx_int lan_nil))))))
 (lss_cons (ls_setO 4 sc__law_steep.nd (lo_bin op_rep olo_rep (LO.v (lo_lst (la_cons lx_int la_nil))) (LX.v (lx_var 3))))
 (lss_cons (ls_for (passes_of rfl) rfl (li_range1 rfl T.n_range (lx_bin op_addAll ol_add (LX.v (lx_bin op_addAll ol_add (LX.v (lx_var 3)) (LX.v lx_int))) (LX.v (lx_call (takes_of rfl rfl rfl rfl) (ok__law_take T) (hr.mono (by first | decide | omega)) rfl T.G__law_take T.K__law_take T.B__law_take (lan_cons (lx_var 0) (lan_cons lx_int lan_nil)))))) (lg_name 5 sc__law_steep.nd) (lss_one (ls_ins 4 (lx_call (takes_of rfl rfl rfl rfl) (ok__law_take T) (hr.mono (by first | decide | omega)) rfl T.G__law_take T.K__law_take T.B__law_take (lan_cons (lx_var 0) (lan_cons (lx_bin op_addAll ol_add (LX.v (lx_callB call_len cl_len rfl T.n_len bb_len (lw_cons (lv_var 4) lw_nil))) (LX.v lx_int)) lan_nil))) (lx_bin op_addAll ol_add (LX.v lx_int) (LX.v (lx_call (takes_of rfl rfl rfl rfl) (ok__law_take T) (hr.mono (by first | decide | omega)) rfl T.G__law_take T.K__law_take T.B__law_take (lan_cons (lx_var 0) (lan_cons (lx_bin op_sub ol_sub (LX.v (lx_var 2)) (LX.v lx_int)) lan_nil))))))))
 (lss_one (ls_freeze 4 (ls_ret (LO.x (lo_lst (la_cons (lx_var 2) (la_cons (lx_var 3) (la_cons (lx_var 4) la_nil))))))))))))⟩
theorem ok__law_great (T : Tx K mg aa1 aa2 aa3 aa4 aa5 aa6 aa7 aa8 aa9 aa10 aa11 aa12 aa13 aa14 aa15 aa16 aa17 aa18 aa19 aa20 aa21 aa22 aa23 aa24 aa25 aa26 aa27 aa28 aa29 aa30 aa31 aa32 aa33 aa34 aa35 aa36 aa37 aa38 aa39 aa40 aa41 aa42 aa43 aa44 aa45 A_Depot A_OutagainError A_OutOfRange A_BadDepot A_BadWish p_Depot_size p_Depot_places dd1 dd2 dd3 dd4 dd5 dd6 dd7 dd8 dd9 dd10 dd11 dd12 dd13 dd14 dd15 dd16 dd17 dd18 dd19 dd20 dd21 dd22 dd23 dd24 dd25 dd26 dd27 dd28 dd29 dd30 dd31 dd32 dd33 dd34 dd35 dd36 dd37 dd38 dd39 dd40 dd41 dd42 dd43 dd44 dd45) : FnOk P w K mg base (L2.CX P w) 2 aa13 dd13 ["pool", "most"] (liftSp ⟨K, mg⟩ w__law_great 2) :=
  fn_mk (N := ["pool", "most", "way", "got", "k"]) (ps := ["pool", "most"]) (k := 1) (pb := b__law_great) T.F__law_great sc__law_great fun cdv A outer s H E hr => ⟨_, (lss_cons (ls_set 2 sc__law_great.nd (lx_call (takes_of rfl rfl rfl rfl) (ok__law_take T) (hr.mono (by first | decide | omega)) rfl T.G__law_take T.K__law_take T.B__law_take (lan_cons (lx_var 0) (lan_cons lx_int lan_nil))))
 (lss_cons (ls_if (lt_cmp L2.op_lt ol_lt (LX.v (lx_var 2)) (LX.v lx_int) (nomark _)) (lss_one (ls_ret (lx_callB (call_min2 rfl) cl_min2 rfl T.n_min bb_min (lw_cons (LX.v (lx_var 1)) (lw_cons (LX.v (lx_call (takes_of rfl rfl rfl rfl) (ok__law_take T) (hr.mono (by first | decide | omega)) rfl T.G__law_take T.K__law_take T.B__law_take (lan_cons (lx_var 0) (lan_cons lx_int lan_nil)))) lw_nil))))) lss_nil)
 (lss_cons (ls_if (lt_cmp (op_eqD hr.units) ol_eq (LX.v (lx_var 2)) (LX.v lx_int) (nomark _)) (lss_one (ls_ret (lx_callB (call_min2 rfl) cl_min2 rfl T.n_min bb_min (lw_cons (LX.v (lx_var 1)) (lw_cons (LX.v (lx_call (takes_of rfl rfl rfl rfl) (ok__law_take T) (hr.mono (by first | decide | omega)) rfl T.G__law_take T.K__law_take T.B__law_take (lan_cons (lx_var 0) (lan_cons lx_int lan_nil)))) lw_nil))))) lss_nil)
 (lss_cons (ls_if (lt_cmp L2.op_gt ol_gt (LX.v (lx_ix (LX.v (lx_var 0)) (LX.v lx_int) (fun _ _ => rfl))) (LX.v (lx_var 1)) (nomark _)) (lss_one (ls_ret (lx_call (takes_of rfl rfl rfl rfl) (ok__law_take T) (hr.mono (by first | decide | omega)) rfl T.G__law_take T.K__law_take T.B__law_take (lan_cons (lx_var 0) (lan_cons (lx_bin op_addAll ol_add (LX.v (lx_var 1)) (LX.v lx_int)) lan_nil))))) lss_nil)
 (lss_cons (ls_set 3 sc__law_great.nd lx_int)
 (lss_cons (ls_for (passes_of rfl) rfl (li_range1 rfl T.n_range lx_int) (lg_name 4 sc__law_great.nd) (lss_one (ls_set 3 sc__law_great.nd (lx_bin op_addAll ol_add (LX.v (lx_bin op_mulAll ol_mul (LX.v (lx_var 3)) (LX.v (lx_bin op_pow ol_pow (LX.v lx_int) (LX.v lx_int))))) (LX.v (lx_call (takes_of rfl rfl rfl rfl) (ok__law_take T) (hr.mono (by first | decide | omega)) rfl T.G__law_take T.K__law_take T.B__law_take (lan_cons (lx_var 0) (lan_cons (lx_bin op_pow ol_pow (LX.v lx_int) (LX.v lx_int)) lan_nil))))))))
 (lss_one (ls_ret (lx_bin op_mod ol_mod (LX.v (lx_callT call_int1 cl_int rfl T.n_int bb_int (lw_cons (LX.v (lx_var 3)) lw_nil))) (LX.v (lx_bin op_addAll ol_add (LX.v (lx_var 1)) (LX.v lx_int))))))))))))⟩
theorem ok__law_counted (T : Tx K mg aa1 aa2 aa3 aa4 aa5 aa6 aa7 aa8 aa9 aa10 aa11 aa12 aa13 aa14 aa15 aa16 aa17 aa18 aa19 aa20 aa21 aa22 aa23 aa24 aa25 aa26 aa27 aa28 aa29 aa30 aa31 aa32 aa33 aa34 aa35 aa36 aa37 aa38 aa39 aa40 aa41 aa42 aa43 aa44 aa45 A_Depot A_OutagainError A_OutOfRange A_BadDepot A_BadWish p_Depot_size p_Depot_places dd1 dd2 dd3 dd4 dd5 dd6 dd7 dd8 dd9 dd10 dd11 dd12 dd13 dd14 dd15 dd16 dd17 dd18 dd19 dd20 dd21 dd22 dd23 dd24 dd25 dd26 dd27 dd28 dd29 dd30 dd31 dd32 dd33 dd34 dd35 dd36 dd37 dd38 dd39 dd40 dd41 dd42 dd43 dd44 dd45) : FnOk P w K mg base (L2.CX P w) 3 aa14 dd14 ["plan", "span", "wish"] (liftSp ⟨K, mg⟩ w__law_counted 3) :=
  fn_mk (N := ["plan", "span", "wish", "m", "j", "spots", "c", "have", "x", "back", "i", "behind"]) (ps := ["plan", "span", "wish"]) (k := 2) (pb := b__law_counted) T.F__law_counted sc__law_counted fun cdv A outer s H E hr => ⟨_, (lss_cons (ls_set 3 sc__law_counted.nd (lx_ix (LX.v (lx_var 0)) (LX.v lx_int) (fun _ _ => rfl)))
 (lss_cons (ls_set 4 sc__law_counted.nd (lx_bin op_fdivW ol_div (LX.v (lx_var 1)) (LX.v (lx_var 3))))
 (lss_cons (ls_set 5 sc__law_counted.nd (lx_call (takes_of rfl rfl rfl rfl) (ok__law_due_spots T) (hr.mono (by first | decide | omega)) rfl T.G__law_due_spots T.K__law_due_spots T.B__law_due_spots (lan_cons (lx_var 0) (lan_cons (lx_var 1) lan_nil))))
 (lss_cons (ls_for (passes_of rfl) rfl (li_range2 rfl T.n_range lx_int (lx_bin op_addAll ol_add (LX.v (lx_var 3)) (LX.v lx_int))) (lg_name 6 sc__law_counted.nd) (lss_cons (ls_set 7 sc__law_counted.nd (lx_callB call_len cl_len rfl T.n_len bb_len (lw_cons (LO.v (lo_lc (own := [("x", 8)]) rfl sc__law_counted.nd (li_seq (lx_var 2)) (blkOk_by (N := ["plan", "span", "wish", "m", "j", "spots", "c", "have", "x", "back", "i", "behind"]) (sc := defScope s__law_counted) (by decide +kernel)) (fun _ _ _ _ _ => ⟨_, (lg_name 8 sc__law_counted.nd)⟩) (fun _ _ _ _ _ => ⟨_, (lts_one (lt_cmp (op_eqD hr.units) ol_eq (LX.v (lx_var 8)) (LX.v (lx_var 6)) (nomark _)))⟩) (fun _ _ _ _ _ => ⟨_, (lx_var 8)⟩) (by decide))) lw_nil)))
 (lss_one (ls_if (lt_cmp L2.op_gt ol_gt (LX.v (lx_var 7)) (LX.v (lx_ix (LX.v (lx_var 5)) (LX.v (lx_var 6)) (fun _ _ => rfl))) (nomark _)) (lss_one (ls_ret (lx_tup (la_cons lx_str (la_cons (lx_var 6) (la_cons (lx_var 7) (la_cons (lx_ix (LX.v (lx_var 5)) (LX.v (lx_var 6)) (fun _ _ => rfl)) la_nil))))))) lss_nil))))
 (lss_cons (ls_setLc 9 (own := [("i", 10)]) rfl sc__law_counted.nd (li_range1 rfl T.n_range (lx_callB call_len cl_len rfl T.n_len bb_len (lw_cons (LX.v (lx_var 2)) lw_nil))) (blkOk_by (N := ["plan", "span", "wish", "m", "j", "spots", "c", "have", "x", "back", "i", "behind"]) (sc := defScope s__law_counted) (by decide +kernel)) (fun _ _ _ _ _ => ⟨_, (lg_name 10 sc__law_counted.nd)⟩) (fun _ _ _ _ _ => ⟨_, (lts_one (lt_cmp L2.op_lt ol_lt (LX.v (lx_ix (LX.v (lx_var 2)) (LX.v (lx_var 10)) (fun _ _ => rfl))) (LX.v (lx_ix (LX.v (lx_ix (LX.v (lx_var 0)) (LX.v lx_int) (fun _ _ => rfl))) (LX.v (lx_var 10)) (fun _ _ => rfl))) (nomark _)))⟩) (fun _ _ _ _ _ => ⟨_, (lx_var 10)⟩) (by decide))
 (lss_cons (ls_if (lt_cmp L2.op_gt ol_gt (LX.v (lx_callB call_len cl_len rfl T.n_len bb_len (lw_cons (LX.v (lx_var 9)) lw_nil))) (LX.v (lx_bin op_mulAll ol_mul (LX.v (lx_ix (LX.v (lx_var 0)) (LX.v lx_int) (fun _ _ => rfl))) (LX.v (lx_var 4)))) (nomark _)) (lss_one (ls_ret (lx_tup (la_cons lx_str (la_cons (lx_callB call_len cl_len rfl T.n_len bb_len (lw_cons (LX.v (lx_var 9)) lw_nil)) (la_cons (lx_bin op_mulAll ol_mul (LX.v (lx_ix (LX.v (lx_var 0)) (LX.v lx_int) (fun _ _ => rfl))) (LX.v (lx_var 4))) la_nil)))))) lss_nil)
 (lss_cons (ls_setLc 11 (own := [("i", 10)]) rfl sc__law_counted.nd (li_seq (lx_var 9)) (blkOk_by (N := ["plan", "span", "wish", "m", "j", "spots", "c", "have", "x", "back", "i", "behind"]) (sc := defScope s__law_counted) (by decide +kernel)) (fun _ _ _ _ _ => ⟨_, (lg_name 10 sc__law_counted.nd)⟩) (fun _ _ _ _ _ => ⟨_, (lts_one (lt_cmp L2.op_gt ol_gt (LX.v (lx_ix (LX.v (lx_var 2)) (LX.v (lx_var 10)) (fun _ _ => rfl))) (LX.v (lx_bin op_addAll ol_add (LX.v (lx_bin op_mod ol_mod (LX.v (lx_callT call_int1 cl_int rfl T.n_int bb_int (lw_cons (LX.v (lx_var 1)) lw_nil))) (LX.v (lx_var 3)))) (LX.v lx_int))) (nomark _)))⟩) (fun _ _ _ _ _ => ⟨_, (lx_var 10)⟩) (by decide))
 (lss_cons (ls_if (lt_cmp L2.op_gt ol_gt (LX.v (lx_callB call_len cl_len rfl T.n_len bb_len (lw_cons (LX.v (lx_var 11)) lw_nil))) (LX.v (lx_bin op_mulAll ol_mul (LX.v (lx_ix (LX.v (lx_var 0)) (LX.v lx_int) (fun _ _ => rfl))) (LX.v (lx_callB (call_max2 rfl) cl_max2 rfl T.n_max bb_max (lw_cons (LX.v lx_int) (lw_cons (LX.v (lx_bin op_sub ol_sub (LX.v (lx_var 4)) (LX.v lx_int))) lw_nil)))))) (nomark _)) (lss_one (ls_ret (lx_tup (la_cons lx_str (la_cons (lx_callB call_len cl_len rfl T.n_len bb_len (lw_cons (LX.v (lx_var 11)) lw_nil)) (la_cons (lx_bin op_mulAll ol_mul (LX.v (lx_ix (LX.v (lx_var 0)) (LX.v lx_int) (fun _ _ => rfl))) (LX.v (lx_callB (call_max2 rfl) cl_max2 rfl T.n_max bb_max (lw_cons (LX.v lx_int) (lw_cons (LX.v (lx_bin op_sub ol_sub (LX.v (lx_var 4)) (LX.v lx_int))) lw_nil))))) la_nil)))))) lss_nil)
 (lss_one (ls_ret (lx_tup (la_cons lx_str (la_cons (LO.x (lo_callT call_list_of cl_list rfl T.n_list bb_list (lw_cons (LX.v (lx_var 2)) lw_nil))) la_nil)))))))))))))⟩
theorem ok_check_days (T : Tx K mg aa1 aa2 aa3 aa4 aa5 aa6 aa7 aa8 aa9 aa10 aa11 aa12 aa13 aa14 aa15 aa16 aa17 aa18 aa19 aa20 aa21 aa22 aa23 aa24 aa25 aa26 aa27 aa28 aa29 aa30 aa31 aa32 aa33 aa34 aa35 aa36 aa37 aa38 aa39 aa40 aa41 aa42 aa43 aa44 aa45 A_Depot A_OutagainError A_OutOfRange A_BadDepot A_BadWish p_Depot_size p_Depot_places dd1 dd2 dd3 dd4 dd5 dd6 dd7 dd8 dd9 dd10 dd11 dd12 dd13 dd14 dd15 dd16 dd17 dd18 dd19 dd20 dd21 dd22 dd23 dd24 dd25 dd26 dd27 dd28 dd29 dd30 dd31 dd32 dd33 dd34 dd35 dd36 dd37 dd38 dd39 dd40 dd41 dd42 dd43 dd44 dd45) : FnOk P w K mg base (L2.CX P w) 3 aa15 dd15 ["days"] (liftSp ⟨K, mg⟩ w_check_days 1) :=
  fn_mk (N := ["days"]) (ps := ["days"]) (k := 2) (pb := b_check_days) T.F_check_days sc_check_days fun cdv A outer s H E hr => ⟨_, (lss_one (ls_if (lt_not (lt_chain L2.op_le L2.op_le ol_le ol_le (LX.v lx_int) (LX.v (lx_var 0)) (LX.v (lx_gint rfl T.g_MOST_DAYS)))) (lss_one (ls_raise (c := 21) rfl (takes_of rfl rfl rfl rfl) T.ex_OutOfRange (okx_OutOfRange T) (hr.mono (by decide)) T.B_OutOfRangeU_initU rfl (lan_cons (lx_var 0) (lan_cons lx_str lan_nil)))) lss_nil))⟩
theorem ok_Depot_size (T : Tx K mg aa1 aa2 aa3 aa4 aa5 aa6 aa7 aa8 aa9 aa10 aa11 aa12 aa13 aa14 aa15 aa16 aa17 aa18 aa19 aa20 aa21 aa22 aa23 aa24 aa25 aa26 aa27 aa28 aa29 aa30 aa31 aa32 aa33 aa34 aa35 aa36 aa37 aa38 aa39 aa40 aa41 aa42 aa43 aa44 aa45 A_Depot A_OutagainError A_OutOfRange A_BadDepot A_BadWish p_Depot_size p_Depot_places dd1 dd2 dd3 dd4 dd5 dd6 dd7 dd8 dd9 dd10 dd11 dd12 dd13 dd14 dd15 dd16 dd17 dd18 dd19 dd20 dd21 dd22 dd23 dd24 dd25 dd26 dd27 dd28 dd29 dd30 dd31 dd32 dd33 dd34 dd35 dd36 dd37 dd38 dd39 dd40 dd41 dd42 dd43 dd44 dd45) : FnOk P w K mg base (L2.CX P w) 1 aa16 dd16 ["self"] (liftSp ⟨K, mg⟩ w_Depot_size 1) :=
  fn_mk (N := ["self"]) (ps := ["self"]) (k := 0) (pb := b_Depot_size) T.F_Depot_size sc_Depot_size fun cdv A outer s H E hr => ⟨_, (lss_one (ls_ret (lx_callB call_len cl_len rfl T.n_len bb_len (lw_cons (LX.v (lx_fld T.fld_firsts (lx_var 0))) lw_nil))))⟩
theorem ok_check_weekdays (T : Tx K mg aa1 aa2 aa3 aa4 aa5 aa6 aa7 aa8 aa9 aa10 aa11 aa12 aa13 aa14 aa15 aa16 aa17 aa18 aa19 aa20 aa21 aa22 aa23 aa24 aa25 aa26 aa27 aa28 aa29 aa30 aa31 aa32 aa33 aa34 aa35 aa36 aa37 aa38 aa39 aa40 aa41 aa42 aa43 aa44 aa45 A_Depot A_OutagainError A_OutOfRange A_BadDepot A_BadWish p_Depot_size p_Depot_places dd1 dd2 dd3 dd4 dd5 dd6 dd7 dd8 dd9 dd10 dd11 dd12 dd13 dd14 dd15 dd16 dd17 dd18 dd19 dd20 dd21 dd22 dd23 dd24 dd25 dd26 dd27 dd28 dd29 dd30 dd31 dd32 dd33 dd34 dd35 dd36 dd37 dd38 dd39 dd40 dd41 dd42 dd43 dd44 dd45) : FnOk P w K mg base (L2.CX P w) 3 aa17 dd17 ["depot", "row", "least"] (liftSp ⟨K, mg⟩ w_check_weekdays 3) :=
  fn_mk (N := ["depot", "row", "least", "driver", "weekday"]) (ps := ["depot", "row", "least"]) (k := 2) (pb := b_check_weekdays) T.F_check_weekdays sc_check_weekdays fun cdv A outer s H E hr => ⟨_, (lss_cons (ls_if (lt_cmp (op_neD hr.units) ol_ne (LX.v (lx_callB call_len cl_len rfl T.n_len bb_len (lw_cons (LX.v (lx_var 1)) lw_nil))) (LX.v (lx_prop T.pr_Depot_size (ok_Depot_size T) (hr.mono (by decide)) T.B_Depot_size (lx_var 0))) (nomark _)) (lss_one (ls_raise (c := 27) rfl (takes_of rfl rfl rfl rfl) T.ex_BadWish (okx_BadWish T) (hr.mono (by decide)) T.B_BadWishU_initU rfl (lan_cons (lx_callB call_len cl_len rfl T.n_len bb_len (lw_cons (LX.v (lx_var 1)) lw_nil)) (lan_cons lx_str lan_nil)))) lss_nil)
 (lss_one (ls_for (passes_of rfl) rfl (li_enum1 rfl T.n_enumerate (lx_var 1)) (lg_seq rfl (lgs_cons (lg_name 3 sc_check_weekdays.nd) (lgs_cons (lg_name 4 sc_check_weekdays.nd) lgs_nil))) (lss_one (ls_if (lt_not (lt_chain L2.op_le L2.op_le ol_le ol_le (LX.v (lx_var 2)) (LX.v (lx_var 4)) (LX.v (lx_fld T.fld_period (lx_var 0))))) (lss_one (ls_raise (c := 27) rfl (takes_of rfl rfl rfl rfl) T.ex_BadWish (okx_BadWish T) (hr.mono (by decide)) T.B_BadWishU_initU rfl (lan_cons (lx_var 3) (lan_cons lx_str lan_nil)))) lss_nil)))))⟩
theorem ok_check_wish (T : Tx K mg aa1 aa2 aa3 aa4 aa5 aa6 aa7 aa8 aa9 aa10 aa11 aa12 aa13 aa14 aa15 aa16 aa17 aa18 aa19 aa20 aa21 aa22 aa23 aa24 aa25 aa26 aa27 aa28 aa29 aa30 aa31 aa32 aa33 aa34 aa35 aa36 aa37 aa38 aa39 aa40 aa41 aa42 aa43 aa44 aa45 A_Depot A_OutagainError A_OutOfRange A_BadDepot A_BadWish p_Depot_size p_Depot_places dd1 dd2 dd3 dd4 dd5 dd6 dd7 dd8 dd9 dd10 dd11 dd12 dd13 dd14 dd15 dd16 dd17 dd18 dd19 dd20 dd21 dd22 dd23 dd24 dd25 dd26 dd27 dd28 dd29 dd30 dd31 dd32 dd33 dd34 dd35 dd36 dd37 dd38 dd39 dd40 dd41 dd42 dd43 dd44 dd45) : FnOk P w K mg base (L2.CX P w) 4 aa18 dd18 ["depot", "wish"] (liftSp ⟨K, mg⟩ w_check_wish 2) :=
  fn_mk (N := ["depot", "wish"]) (ps := ["depot", "wish"]) (k := 3) (pb := b_check_wish) T.F_check_wish sc_check_wish fun cdv A outer s H E hr => ⟨_, (lss_one (ls_expr (LX.v (lx_call (takes_of rfl rfl rfl rfl) (ok_check_weekdays T) (hr.mono (by first | decide | omega)) rfl T.G_check_weekdays T.K_check_weekdays T.B_check_weekdays (lan_cons (lx_var 0) (lan_cons (lx_var 1) (lan_cons lx_int lan_nil)))))))⟩
theorem ok_Depot_closings (T : Tx K mg aa1 aa2 aa3 aa4 aa5 aa6 aa7 aa8 aa9 aa10 aa11 aa12 aa13 aa14 aa15 aa16 aa17 aa18 aa19 aa20 aa21 aa22 aa23 aa24 aa25 aa26 aa27 aa28 aa29 aa30 aa31 aa32 aa33 aa34 aa35 aa36 aa37 aa38 aa39 aa40 aa41 aa42 aa43 aa44 aa45 A_Depot A_OutagainError A_OutOfRange A_BadDepot A_BadWish p_Depot_size p_Depot_places dd1 dd2 dd3 dd4 dd5 dd6 dd7 dd8 dd9 dd10 dd11 dd12 dd13 dd14 dd15 dd16 dd17 dd18 dd19 dd20 dd21 dd22 dd23 dd24 dd25 dd26 dd27 dd28 dd29 dd30 dd31 dd32 dd33 dd34 dd35 dd36 dd37 dd38 dd39 dd40 dd41 dd42 dd43 dd44 dd45) : FnOk P w K mg base (L2.CX P w) 4 aa19 dd19 ["self", "days"] (liftSp ⟨K, mg⟩ w_Depot_closings 2) :=
  fn_mk (N := ["self", "days"]) (ps := ["self", "days"]) (k := 3) (pb := b_Depot_closings) T.F_Depot_closings sc_Depot_closings fun cdv A outer s H E hr => ⟨_, (lss_cons (ls_expr (LX.v (lx_call (takes_of rfl rfl rfl rfl) (ok_check_days T) (hr.mono (by first | decide | omega)) rfl T.G_check_days T.K_check_days T.B_check_days (lan_cons (lx_var 1) lan_nil))))
 (lss_one (ls_ret (lx_bin op_fdivW ol_div (LX.v (lx_var 1)) (LX.v (lx_fld T.fld_period (lx_var 0)))))))⟩
theorem ok_need_reasons (T : Tx K mg aa1 aa2 aa3 aa4 aa5 aa6 aa7 aa8 aa9 aa10 aa11 aa12 aa13 aa14 aa15 aa16 aa17 aa18 aa19 aa20 aa21 aa22 aa23 aa24 aa25 aa26 aa27 aa28 aa29 aa30 aa31 aa32 aa33 aa34 aa35 aa36 aa37 aa38 aa39 aa40 aa41 aa42 aa43 aa44 aa45 A_Depot A_OutagainError A_OutOfRange A_BadDepot A_BadWish p_Depot_size p_Depot_places dd1 dd2 dd3 dd4 dd5 dd6 dd7 dd8 dd9 dd10 dd11 dd12 dd13 dd14 dd15 dd16 dd17 dd18 dd19 dd20 dd21 dd22 dd23 dd24 dd25 dd26 dd27 dd28 dd29 dd30 dd31 dd32 dd33 dd34 dd35 dd36 dd37 dd38 dd39 dd40 dd41 dd42 dd43 dd44 dd45) : FnOk P w K mg base (L2.CX P w) 1 aa20 dd20 ["word", "needs", "carried"] (liftSp ⟨K, mg⟩ w_need_reasons 3) :=
  fn_mk (N := ["word", "needs", "carried", "r", "need"]) (ps := ["word", "needs", "carried"]) (k := 0) (pb := b_need_reasons) T.F_need_reasons sc_need_reasons fun cdv A outer s H E hr => ⟨_, (lss_one (ls_ret (LO.x (lo_lc (own := [("r", 3), ("need", 4)]) rfl sc_need_reasons.nd (li_seq (lx_var 1)) (blkOk_by (N := ["word", "needs", "carried", "r", "need"]) (sc := defScope s_need_reasons) (by decide +kernel)) (fun _ _ _ _ _ => ⟨_, (lg_seq rfl (lgs_cons (lg_name 3 sc_need_reasons.nd) (lgs_cons (lg_name 4 sc_need_reasons.nd) lgs_nil)))⟩) (fun _ _ _ _ _ => ⟨_, (lts_one (lt_cmp L2.op_gt ol_gt (LX.v (lx_var 4)) (LX.v (lx_var 2)) (nomark _)))⟩) (fun _ _ _ _ _ => ⟨_, (lx_tup (la_cons (lx_var 0) (la_cons (lx_var 3) (la_cons (lx_var 4) (la_cons (lx_var 2) la_nil)))))⟩) (by decide)))))⟩
theorem ok_Depot_weekday (T : Tx K mg aa1 aa2 aa3 aa4 aa5 aa6 aa7 aa8 aa9 aa10 aa11 aa12 aa13 aa14 aa15 aa16 aa17 aa18 aa19 aa20 aa21 aa22 aa23 aa24 aa25 aa26 aa27 aa28 aa29 aa30 aa31 aa32 aa33 aa34 aa35 aa36 aa37 aa38 aa39 aa40 aa41 aa42 aa43 aa44 aa45 A_Depot A_OutagainError A_OutOfRange A_BadDepot A_BadWish p_Depot_size p_Depot_places dd1 dd2 dd3 dd4 dd5 dd6 dd7 dd8 dd9 dd10 dd11 dd12 dd13 dd14 dd15 dd16 dd17 dd18 dd19 dd20 dd21 dd22 dd23 dd24 dd25 dd26 dd27 dd28 dd29 dd30 dd31 dd32 dd33 dd34 dd35 dd36 dd37 dd38 dd39 dd40 dd41 dd42 dd43 dd44 dd45) : FnOk P w K mg base (L2.CX P w) 3 aa21 dd21 ["self", "morning"] (liftSp ⟨K, mg⟩ w_Depot_weekday 2) :=
  fn_mk (N := ["self", "morning"]) (ps := ["self", "morning"]) (k := 2) (pb := b_Depot_weekday) T.F_Depot_weekday sc_Depot_weekday fun cdv A outer s H E hr => ⟨_, (lss_cons (ls_if (lt_cmp L2.op_lt ol_lt (LX.v (lx_var 1)) (LX.v lx_int) (nomark _)) (lss_one (ls_raise (c := 21) rfl (takes_of rfl rfl rfl rfl) T.ex_OutOfRange (okx_OutOfRange T) (hr.mono (by decide)) T.B_OutOfRangeU_initU rfl (lan_cons (lx_var 1) (lan_cons lx_str lan_nil)))) lss_nil)
 (lss_one (ls_ret (lx_bin op_addAll ol_add (LX.v (lx_bin op_mod ol_mod (LX.v (lx_bin op_sub ol_sub (LX.v (lx_var 1)) (LX.v lx_int))) (LX.v (lx_fld T.fld_period (lx_var 0))))) (LX.v lx_int)))))⟩
theorem ok_Depot_last_weekday (T : Tx K mg aa1 aa2 aa3 aa4 aa5 aa6 aa7 aa8 aa9 aa10 aa11 aa12 aa13 aa14 aa15 aa16 aa17 aa18 aa19 aa20 aa21 aa22 aa23 aa24 aa25 aa26 aa27 aa28 aa29 aa30 aa31 aa32 aa33 aa34 aa35 aa36 aa37 aa38 aa39 aa40 aa41 aa42 aa43 aa44 aa45 A_Depot A_OutagainError A_OutOfRange A_BadDepot A_BadWish p_Depot_size p_Depot_places dd1 dd2 dd3 dd4 dd5 dd6 dd7 dd8 dd9 dd10 dd11 dd12 dd13 dd14 dd15 dd16 dd17 dd18 dd19 dd20 dd21 dd22 dd23 dd24 dd25 dd26 dd27 dd28 dd29 dd30 dd31 dd32 dd33 dd34 dd35 dd36 dd37 dd38 dd39 dd40 dd41 dd42 dd43 dd44 dd45) : FnOk P w K mg base (L2.CX P w) 4 aa22 dd22 ["self", "days"] (liftSp ⟨K, mg⟩ w_Depot_last_weekday 2) :=
  fn_mk (N := ["self", "days"]) (ps := ["self", "days"]) (k := 3) (pb := b_Depot_last_weekday) T.F_Depot_last_weekday sc_Depot_last_weekday fun cdv A outer s H E hr => ⟨_, (lss_cons (ls_expr (LX.v (lx_call (takes_of rfl rfl rfl rfl) (ok_check_days T) (hr.mono (by first | decide | omega)) rfl T.G_check_days T.K_check_days T.B_check_days (lan_cons (lx_var 1) lan_nil))))
 (lss_one (ls_ret (lx_meth (takes_of rfl rfl rfl rfl) T.me_Depot_weekday (ok_Depot_weekday T) (hr.mono (by decide)) T.B_Depot_weekday (lx_var 0) (lan_cons (lx_bin op_addAll ol_add (LX.v (lx_var 1)) (LX.v lx_int)) lan_nil)))))⟩
theorem ok_Depot_places (T : Tx K mg aa1 aa2 aa3 aa4 aa5 aa6 aa7 aa8 aa9 aa10 aa11 aa12 aa13 aa14 aa15 aa16 aa17 aa18 aa19 aa20 aa21 aa22 aa23 aa24 aa25 aa26 aa27 aa28 aa29 aa30 aa31 aa32 aa33 aa34 aa35 aa36 aa37 aa38 aa39 aa40 aa41 aa42 aa43 aa44 aa45 A_Depot A_OutagainError A_OutOfRange A_BadDepot A_BadWish p_Depot_size p_Depot_places dd1 dd2 dd3 dd4 dd5 dd6 dd7 dd8 dd9 dd10 dd11 dd12 dd13 dd14 dd15 dd16 dd17 dd18 dd19 dd20 dd21 dd22 dd23 dd24 dd25 dd26 dd27 dd28 dd29 dd30 dd31 dd32 dd33 dd34 dd35 dd36 dd37 dd38 dd39 dd40 dd41 dd42 dd43 dd44 dd45) : FnOk P w K mg base (L2.CX P w) 1 aa23 dd23 ["self"] (liftSp ⟨K, mg⟩ w_Depot_places 1) :=
  fn_mk (N := ["self", "weekday"]) (ps := ["self"]) (k := 0) (pb := b_Depot_places) T.F_Depot_places sc_Depot_places fun cdv A outer s H E hr => ⟨_, (lss_one (ls_ret (lx_callT call_tupN cl_tuple rfl T.n_tuple bb_tuple (lw_cons (LO.v (lo_lc (own := [("weekday", 1)]) rfl sc_Depot_places.nd (li_range2 rfl T.n_range lx_int (lx_bin op_addAll ol_add (LX.v (lx_fld T.fld_period (lx_var 0))) (LX.v lx_int))) (blkOk_by (N := ["self", "weekday"]) (sc := defScope s_Depot_places) (by decide +kernel)) (fun _ _ _ _ _ => ⟨_, (lg_name 1 sc_Depot_places.nd)⟩) (fun _ _ _ _ _ => ⟨_, lts_nil⟩) (fun _ _ _ _ _ => ⟨_, (lx_bin op_sub ol_sub (LX.v (lx_count (LX.v (lx_fld T.fld_firsts (lx_var 0))) (lx_var 1))) (LX.v (lx_ifE (lt_cmp (op_eqD hr.units) ol_eq (LX.v (lx_var 1)) (LX.v lx_int) (nomark _)) (lx_fld T.fld_quota (lx_var 0)) lx_int)))⟩) (by decide))) lw_nil))))⟩
theorem ok_Depot_due_places (T : Tx K mg aa1 aa2 aa3 aa4 aa5 aa6 aa7 aa8 aa9 aa10 aa11 aa12 aa13 aa14 aa15 aa16 aa17 aa18 aa19 aa20 aa21 aa22 aa23 aa24 aa25 aa26 aa27 aa28 aa29 aa30 aa31 aa32 aa33 aa34 aa35 aa36 aa37 aa38 aa39 aa40 aa41 aa42 aa43 aa44 aa45 A_Depot A_OutagainError A_OutOfRange A_BadDepot A_BadWish p_Depot_size p_Depot_places dd1 dd2 dd3 dd4 dd5 dd6 dd7 dd8 dd9 dd10 dd11 dd12 dd13 dd14 dd15 dd16 dd17 dd18 dd19 dd20 dd21 dd22 dd23 dd24 dd25 dd26 dd27 dd28 dd29 dd30 dd31 dd32 dd33 dd34 dd35 dd36 dd37 dd38 dd39 dd40 dd41 dd42 dd43 dd44 dd45) : FnOk P w K mg base (L2.CX P w) 5 aa24 dd24 ["self", "days"] (liftSp ⟨K, mg⟩ w_Depot_due_places 2) :=
  fn_mk (N := ["self", "days", "last", "weekday", "count"]) (ps := ["self", "days"]) (k := 4) (pb := b_Depot_due_places) T.F_Depot_due_places sc_Depot_due_places fun cdv A outer s H E hr => ⟨_, (lss_cons (ls_set 2 sc_Depot_due_places.nd (lx_meth (takes_of rfl rfl rfl rfl) T.me_Depot_last_weekday (ok_Depot_last_weekday T) (hr.mono (by decide)) T.B_Depot_last_weekday (lx_var 0) (lan_cons (lx_var 1) lan_nil)))
 (lss_one (ls_ret (lx_callT call_tupN cl_tuple rfl T.n_tuple bb_tuple (lw_cons (LO.v (lo_lc (own := [("weekday", 3), ("count", 4)]) rfl sc_Depot_due_places.nd (li_enum2 rfl T.n_enumerate (lx_prop T.pr_Depot_places (ok_Depot_places T) (hr.mono (by decide)) T.B_Depot_places (lx_var 0))) (blkOk_by (N := ["self", "days", "last", "weekday", "count"]) (sc := defScope s_Depot_due_places) (by decide +kernel)) (fun _ _ _ _ _ => ⟨_, (lg_seq rfl (lgs_cons (lg_name 3 sc_Depot_due_places.nd) (lgs_cons (lg_name 4 sc_Depot_due_places.nd) lgs_nil)))⟩) (fun _ _ _ _ _ => ⟨_, lts_nil⟩) (fun _ _ _ _ _ => ⟨_, (lx_bin op_addAll ol_add (LX.v (lx_var 4)) (LX.v (lx_ifE (lt_cmp (op_eqD hr.units) ol_eq (LX.v (lx_var 3)) (LX.v (lx_var 2)) (nomark _)) (lx_fld T.fld_quota (lx_var 0)) lx_int)))⟩) (by decide))) lw_nil)))))⟩
theorem ok_crowd_reasons (T : Tx K mg aa1 aa2 aa3 aa4 aa5 aa6 aa7 aa8 aa9 aa10 aa11 aa12 aa13 aa14 aa15 aa16 aa17 aa18 aa19 aa20 aa21 aa22 aa23 aa24 aa25 aa26 aa27 aa28 aa29 aa30 aa31 aa32 aa33 aa34 aa35 aa36 aa37 aa38 aa39 aa40 aa41 aa42 aa43 aa44 aa45 A_Depot A_OutagainError A_OutOfRange A_BadDepot A_BadWish p_Depot_size p_Depot_places dd1 dd2 dd3 dd4 dd5 dd6 dd7 dd8 dd9 dd10 dd11 dd12 dd13 dd14 dd15 dd16 dd17 dd18 dd19 dd20 dd21 dd22 dd23 dd24 dd25 dd26 dd27 dd28 dd29 dd30 dd31 dd32 dd33 dd34 dd35 dd36 dd37 dd38 dd39 dd40 dd41 dd42 dd43 dd44 dd45) : FnOk P w K mg base (L2.CX P w) 6 aa25 dd25 ["depot", "days", "weekdays"] (liftSp ⟨K, mg⟩ w_crowd_reasons 3) :=
  fn_mk (N := ["depot", "days", "weekdays", "reasons", "weekday", "room", "told"]) (ps := ["depot", "days", "weekdays"]) (k := 5) (pb := b_crowd_reasons) T.F_crowd_reasons sc_crowd_reasons fun cdv A outer s H E hr => ⟨_, (lss_cons (ls_setO 3 sc_crowd_reasons.nd (lo_lst la_nil))
 (lss_cons (ls_for (passes_of rfl) rfl (li_enum2 rfl T.n_enumerate (lx_meth (takes_of rfl rfl rfl rfl) T.me_Depot_due_places (ok_Depot_due_places T) (hr.mono (by decide)) T.B_Depot_due_places (lx_var 0) (lan_cons (lx_var 1) lan_nil))) (lg_seq rfl (lgs_cons (lg_name 4 sc_crowd_reasons.nd) (lgs_cons (lg_name 5 sc_crowd_reasons.nd) lgs_nil))) (lss_cons (ls_set 6 sc_crowd_reasons.nd (lx_count (LX.v (lx_var 2)) (lx_var 4)))
 (lss_one (ls_if (lt_cmp L2.op_gt ol_gt (LX.v (lx_var 6)) (LX.v (lx_var 5)) (nomark _)) (lss_one (ls_app 3 (lx_tup (la_cons lx_str (la_cons (lx_var 4) (la_cons (lx_var 6) (la_cons (lx_var 5) la_nil))))))) lss_nil))))
 (lss_one (ls_freeze 3 (ls_ret (lx_var 3))))))⟩
theorem ok_surplus (T : Tx K mg aa1 aa2 aa3 aa4 aa5 aa6 aa7 aa8 aa9 aa10 aa11 aa12 aa13 aa14 aa15 aa16 aa17 aa18 aa19 aa20 aa21 aa22 aa23 aa24 aa25 aa26 aa27 aa28 aa29 aa30 aa31 aa32 aa33 aa34 aa35 aa36 aa37 aa38 aa39 aa40 aa41 aa42 aa43 aa44 aa45 A_Depot A_OutagainError A_OutOfRange A_BadDepot A_BadWish p_Depot_size p_Depot_places dd1 dd2 dd3 dd4 dd5 dd6 dd7 dd8 dd9 dd10 dd11 dd12 dd13 dd14 dd15 dd16 dd17 dd18 dd19 dd20 dd21 dd22 dd23 dd24 dd25 dd26 dd27 dd28 dd29 dd30 dd31 dd32 dd33 dd34 dd35 dd36 dd37 dd38 dd39 dd40 dd41 dd42 dd43 dd44 dd45) : FnOk P w K mg base (L2.CX P w) 1 aa26 dd26 ["places", "firsts", "low", "high"] (liftSp ⟨K, mg⟩ w_surplus 4) :=
  fn_mk (N := ["places", "firsts", "low", "high", "first"]) (ps := ["places", "firsts", "low", "high"]) (k := 0) (pb := b_surplus) T.F_surplus sc_surplus fun cdv A outer s H E hr => ⟨_, (lss_one (ls_ret (lx_bin op_sub ol_sub (LX.v (lx_callB (cr_sumA rfl) cl_sumA rfl T.n_sum bb_sum (lw_cons (LX.v (lx_slice (LX.v (lx_var 0)) (lp_some (lx_var 2)) (lp_some (lx_var 3)))) lw_nil))) (LX.v (lx_callB call_len cl_len rfl T.n_len bb_len (lw_cons (LO.v (lo_lc (own := [("first", 4)]) rfl sc_surplus.nd (li_seq (lx_var 1)) (blkOk_by (N := ["places", "firsts", "low", "high", "first"]) (sc := defScope s_surplus) (by decide +kernel)) (fun _ _ _ _ _ => ⟨_, (lg_name 4 sc_surplus.nd)⟩) (fun _ _ _ _ _ => ⟨_, (lts_one (lt_cmp L2.op_le ol_le (LX.v (lx_var 4)) (LX.v (lx_var 3)) (nomark _)))⟩) (fun _ _ _ _ _ => ⟨_, (lx_var 4)⟩) (by decide))) lw_nil))))))⟩
theorem ok_last_needs (T : Tx K mg aa1 aa2 aa3 aa4 aa5 aa6 aa7 aa8 aa9 aa10 aa11 aa12 aa13 aa14 aa15 aa16 aa17 aa18 aa19 aa20 aa21 aa22 aa23 aa24 aa25 aa26 aa27 aa28 aa29 aa30 aa31 aa32 aa33 aa34 aa35 aa36 aa37 aa38 aa39 aa40 aa41 aa42 aa43 aa44 aa45 A_Depot A_OutagainError A_OutOfRange A_BadDepot A_BadWish p_Depot_size p_Depot_places dd1 dd2 dd3 dd4 dd5 dd6 dd7 dd8 dd9 dd10 dd11 dd12 dd13 dd14 dd15 dd16 dd17 dd18 dd19 dd20 dd21 dd22 dd23 dd24 dd25 dd26 dd27 dd28 dd29 dd30 dd31 dd32 dd33 dd34 dd35 dd36 dd37 dd38 dd39 dd40 dd41 dd42 dd43 dd44 dd45) : FnOk P w K mg base (L2.CX P w) 2 aa27 dd27 ["places", "firsts", "last", "told"] (liftSp ⟨K, mg⟩ w_last_needs 4) :=
  fn_mk (N := ["places", "firsts", "last", "told", "r"]) (ps := ["places", "firsts", "last", "told"]) (k := 1) (pb := b_last_needs) T.F_last_needs sc_last_needs fun cdv A outer s H E hr => ⟨_, (lss_one (ls_ret (LO.x (lo_lc (own := [("r", 4)]) rfl sc_last_needs.nd (li_range2 rfl T.n_range (lx_var 2) (lx_bin op_addAll ol_add (LX.v (lx_callB call_len cl_len rfl T.n_len bb_len (lw_cons (LX.v (lx_var 0)) lw_nil))) (LX.v lx_int))) (blkOk_by (N := ["places", "firsts", "last", "told", "r"]) (sc := defScope s_last_needs) (by decide +kernel)) (fun _ _ _ _ _ => ⟨_, (lg_name 4 sc_last_needs.nd)⟩) (fun _ _ _ _ _ => ⟨_, lts_nil⟩) (fun _ _ _ _ _ => ⟨_, (lx_tup (la_cons (lx_var 4) (la_cons (lx_bin op_addAll ol_add (LX.v (lx_var 3)) (LX.v (lx_callB (call_max2 rfl) cl_max2 rfl T.n_max bb_max (lw_cons (LX.v lx_int) (lw_cons (LX.v (lx_call (W := WN) takes0 (ok_surplus T) (hr.mono (by first | decide | omega)) rfl T.G_surplus T.K_surplus T.B_surplus (lan_cons (lx_var 0) (lan_cons (lx_var 1) (lan_cons (lx_var 2) (lan_cons (lx_var 4) lan_nil)))))) lw_nil))))) la_nil)))⟩) (by decide)))))⟩
theorem ok_left_places (T : Tx K mg aa1 aa2 aa3 aa4 aa5 aa6 aa7 aa8 aa9 aa10 aa11 aa12 aa13 aa14 aa15 aa16 aa17 aa18 aa19 aa20 aa21 aa22 aa23 aa24 aa25 aa26 aa27 aa28 aa29 aa30 aa31 aa32 aa33 aa34 aa35 aa36 aa37 aa38 aa39 aa40 aa41 aa42 aa43 aa44 aa45 A_Depot A_OutagainError A_OutOfRange A_BadDepot A_BadWish p_Depot_size p_Depot_places dd1 dd2 dd3 dd4 dd5 dd6 dd7 dd8 dd9 dd10 dd11 dd12 dd13 dd14 dd15 dd16 dd17 dd18 dd19 dd20 dd21 dd22 dd23 dd24 dd25 dd26 dd27 dd28 dd29 dd30 dd31 dd32 dd33 dd34 dd35 dd36 dd37 dd38 dd39 dd40 dd41 dd42 dd43 dd44 dd45) : FnOk P w K mg base (L2.CX P w) 6 aa28 dd28 ["depot", "days", "weekdays"] (liftSp ⟨K, mg⟩ w_left_places 3) :=
  fn_mk (N := ["depot", "days", "weekdays", "weekday", "room"]) (ps := ["depot", "days", "weekdays"]) (k := 5) (pb := b_left_places) T.F_left_places sc_left_places fun cdv A outer s H E hr => ⟨_, (lss_one (ls_ret (LO.x (lo_lc (own := [("weekday", 3), ("room", 4)]) rfl sc_left_places.nd (li_enum2 rfl T.n_enumerate (lx_meth (takes_of rfl rfl rfl rfl) T.me_Depot_due_places (ok_Depot_due_places T) (hr.mono (by decide)) T.B_Depot_due_places (lx_var 0) (lan_cons (lx_var 1) lan_nil))) (blkOk_by (N := ["depot", "days", "weekdays", "weekday", "room"]) (sc := defScope s_left_places) (by decide +kernel)) (fun _ _ _ _ _ => ⟨_, (lg_seq rfl (lgs_cons (lg_name 3 sc_left_places.nd) (lgs_cons (lg_name 4 sc_left_places.nd) lgs_nil)))⟩) (fun _ _ _ _ _ => ⟨_, lts_nil⟩) (fun _ _ _ _ _ => ⟨_, (lx_bin op_sub ol_sub (LX.v (lx_var 4)) (LX.v (lx_count (LX.v (lx_var 2)) (lx_var 3))))⟩) (by decide)))))⟩
theorem ok_free_firsts (T : Tx K mg aa1 aa2 aa3 aa4 aa5 aa6 aa7 aa8 aa9 aa10 aa11 aa12 aa13 aa14 aa15 aa16 aa17 aa18 aa19 aa20 aa21 aa22 aa23 aa24 aa25 aa26 aa27 aa28 aa29 aa30 aa31 aa32 aa33 aa34 aa35 aa36 aa37 aa38 aa39 aa40 aa41 aa42 aa43 aa44 aa45 A_Depot A_OutagainError A_OutOfRange A_BadDepot A_BadWish p_Depot_size p_Depot_places dd1 dd2 dd3 dd4 dd5 dd6 dd7 dd8 dd9 dd10 dd11 dd12 dd13 dd14 dd15 dd16 dd17 dd18 dd19 dd20 dd21 dd22 dd23 dd24 dd25 dd26 dd27 dd28 dd29 dd30 dd31 dd32 dd33 dd34 dd35 dd36 dd37 dd38 dd39 dd40 dd41 dd42 dd43 dd44 dd45) : FnOk P w K mg base (L2.CX P w) 1 aa29 dd29 ["depot", "wish"] (liftSp ⟨K, mg⟩ w_free_firsts 2) :=
  fn_mk (N := ["depot", "wish", "weekday", "first"]) (ps := ["depot", "wish"]) (k := 0) (pb := b_free_firsts) T.F_free_firsts sc_free_firsts fun cdv A outer s H E hr => ⟨_, (lss_one (ls_ret (LO.x (lo_lc (own := [("weekday", 2), ("first", 3)]) rfl sc_free_firsts.nd (li_zip2 rfl T.n_zip (lx_var 1) (lx_fld T.fld_firsts (lx_var 0))) (blkOk_by (N := ["depot", "wish", "weekday", "first"]) (sc := defScope s_free_firsts) (by decide +kernel)) (fun _ _ _ _ _ => ⟨_, (lg_seq rfl (lgs_cons (lg_name 2 sc_free_firsts.nd) (lgs_cons (lg_name 3 sc_free_firsts.nd) lgs_nil)))⟩) (fun _ _ _ _ _ => ⟨_, (lts_one (lt_cmp (op_eqD hr.units) ol_eq (LX.v (lx_var 2)) (LX.v lx_int) (nomark _)))⟩) (fun _ _ _ _ _ => ⟨_, (lx_var 3)⟩) (by decide)))))⟩
theorem ok_back_weekdays (T : Tx K mg aa1 aa2 aa3 aa4 aa5 aa6 aa7 aa8 aa9 aa10 aa11 aa12 aa13 aa14 aa15 aa16 aa17 aa18 aa19 aa20 aa21 aa22 aa23 aa24 aa25 aa26 aa27 aa28 aa29 aa30 aa31 aa32 aa33 aa34 aa35 aa36 aa37 aa38 aa39 aa40 aa41 aa42 aa43 aa44 aa45 A_Depot A_OutagainError A_OutOfRange A_BadDepot A_BadWish p_Depot_size p_Depot_places dd1 dd2 dd3 dd4 dd5 dd6 dd7 dd8 dd9 dd10 dd11 dd12 dd13 dd14 dd15 dd16 dd17 dd18 dd19 dd20 dd21 dd22 dd23 dd24 dd25 dd26 dd27 dd28 dd29 dd30 dd31 dd32 dd33 dd34 dd35 dd36 dd37 dd38 dd39 dd40 dd41 dd42 dd43 dd44 dd45) : FnOk P w K mg base (L2.CX P w) 1 aa30 dd30 ["depot", "wish"] (liftSp ⟨K, mg⟩ w_back_weekdays 2) :=
  fn_mk (N := ["depot", "wish", "weekday", "first"]) (ps := ["depot", "wish"]) (k := 0) (pb := b_back_weekdays) T.F_back_weekdays sc_back_weekdays fun cdv A outer s H E hr => ⟨_, (lss_one (ls_ret (LO.x (lo_lc (own := [("weekday", 2), ("first", 3)]) rfl sc_back_weekdays.nd (li_zip2 rfl T.n_zip (lx_var 1) (lx_fld T.fld_firsts (lx_var 0))) (blkOk_by (N := ["depot", "wish", "weekday", "first"]) (sc := defScope s_back_weekdays) (by decide +kernel)) (fun _ _ _ _ _ => ⟨_, (lg_seq rfl (lgs_cons (lg_name 2 sc_back_weekdays.nd) (lgs_cons (lg_name 3 sc_back_weekdays.nd) lgs_nil)))⟩) (fun _ _ _ _ _ => ⟨_, (lts_one (lt_chain L2.op_lt L2.op_lt ol_lt ol_lt (LX.v lx_int) (LX.v (lx_var 2)) (LX.v (lx_var 3))))⟩) (fun _ _ _ _ _ => ⟨_, (lx_var 2)⟩) (by decide)))))⟩
theorem ok_late_needs (T : Tx K mg aa1 aa2 aa3 aa4 aa5 aa6 aa7 aa8 aa9 aa10 aa11 aa12 aa13 aa14 aa15 aa16 aa17 aa18 aa19 aa20 aa21 aa22 aa23 aa24 aa25 aa26 aa27 aa28 aa29 aa30 aa31 aa32 aa33 aa34 aa35 aa36 aa37 aa38 aa39 aa40 aa41 aa42 aa43 aa44 aa45 A_Depot A_OutagainError A_OutOfRange A_BadDepot A_BadWish p_Depot_size p_Depot_places dd1 dd2 dd3 dd4 dd5 dd6 dd7 dd8 dd9 dd10 dd11 dd12 dd13 dd14 dd15 dd16 dd17 dd18 dd19 dd20 dd21 dd22 dd23 dd24 dd25 dd26 dd27 dd28 dd29 dd30 dd31 dd32 dd33 dd34 dd35 dd36 dd37 dd38 dd39 dd40 dd41 dd42 dd43 dd44 dd45) : FnOk P w K mg base (L2.CX P w) 7 aa31 dd31 ["depot", "days", "wish"] (liftSp ⟨K, mg⟩ w_late_needs 3) :=
  fn_mk (N := ["depot", "days", "wish", "last", "backs", "weekday"]) (ps := ["depot", "days", "wish"]) (k := 6) (pb := b_late_needs) T.F_late_needs sc_late_needs fun cdv A outer s H E hr => ⟨_, (lss_cons (ls_set 3 sc_late_needs.nd (lx_meth (takes_of rfl rfl rfl rfl) T.me_Depot_last_weekday (ok_Depot_last_weekday T) (hr.mono (by decide)) T.B_Depot_last_weekday (lx_var 0) (lan_cons (lx_var 1) lan_nil)))
 (lss_cons (ls_setLc 4 (own := [("weekday", 5)]) rfl sc_late_needs.nd (li_seq (lx_call (takes_of rfl rfl rfl rfl) (ok_back_weekdays T) (hr.mono (by first | decide | omega)) rfl T.G_back_weekdays T.K_back_weekdays T.B_back_weekdays (lan_cons (lx_var 0) (lan_cons (lx_var 2) lan_nil)))) (blkOk_by (N := ["depot", "days", "wish", "last", "backs", "weekday"]) (sc := defScope s_late_needs) (by decide +kernel)) (fun _ _ _ _ _ => ⟨_, (lg_name 5 sc_late_needs.nd)⟩) (fun _ _ _ _ _ => ⟨_, (lts_one (lt_cmp L2.op_gt ol_gt (LX.v (lx_var 5)) (LX.v (lx_var 3)) (nomark _)))⟩) (fun _ _ _ _ _ => ⟨_, (lx_var 5)⟩) (by decide))
 (lss_one (ls_ret (lx_call (takes_of rfl rfl rfl rfl) (ok_last_needs T) (hr.mono (by first | decide | omega)) rfl T.G_last_needs T.K_last_needs T.B_last_needs (lan_cons (lx_call (takes_of rfl rfl rfl rfl) (ok_left_places T) (hr.mono (by first | decide | omega)) rfl T.G_left_places T.K_left_places T.B_left_places (lan_cons (lx_var 0) (lan_cons (lx_var 1) (lan_cons (lx_var 2) lan_nil)))) (lan_cons (lx_call (takes_of rfl rfl rfl rfl) (ok_free_firsts T) (hr.mono (by first | decide | omega)) rfl T.G_free_firsts T.K_free_firsts T.B_free_firsts (lan_cons (lx_var 0) (lan_cons (lx_var 2) lan_nil))) (lan_cons (lx_var 3) (lan_cons (lx_callB call_len cl_len rfl T.n_len bb_len (lw_cons (LX.v (lx_var 4)) lw_nil)) lan_nil)))))))))⟩
theorem ok_back_needs (T : Tx K mg aa1 aa2 aa3 aa4 aa5 aa6 aa7 aa8 aa9 aa10 aa11 aa12 aa13 aa14 aa15 aa16 aa17 aa18 aa19 aa20 aa21 aa22 aa23 aa24 aa25 aa26 aa27 aa28 aa29 aa30 aa31 aa32 aa33 aa34 aa35 aa36 aa37 aa38 aa39 aa40 aa41 aa42 aa43 aa44 aa45 A_Depot A_OutagainError A_OutOfRange A_BadDepot A_BadWish p_Depot_size p_Depot_places dd1 dd2 dd3 dd4 dd5 dd6 dd7 dd8 dd9 dd10 dd11 dd12 dd13 dd14 dd15 dd16 dd17 dd18 dd19 dd20 dd21 dd22 dd23 dd24 dd25 dd26 dd27 dd28 dd29 dd30 dd31 dd32 dd33 dd34 dd35 dd36 dd37 dd38 dd39 dd40 dd41 dd42 dd43 dd44 dd45) : FnOk P w K mg base (L2.CX P w) 2 aa32 dd32 ["places", "firsts", "told"] (liftSp ⟨K, mg⟩ w_back_needs 3) :=
  fn_mk (N := ["places", "firsts", "told", "r"]) (ps := ["places", "firsts", "told"]) (k := 1) (pb := b_back_needs) T.F_back_needs sc_back_needs fun cdv A outer s H E hr => ⟨_, (lss_one (ls_ret (LO.x (lo_lc (own := [("r", 3)]) rfl sc_back_needs.nd (li_range1 rfl T.n_range (lx_bin op_addAll ol_add (LX.v (lx_callB call_len cl_len rfl T.n_len bb_len (lw_cons (LX.v (lx_var 0)) lw_nil))) (LX.v lx_int))) (blkOk_by (N := ["places", "firsts", "told", "r"]) (sc := defScope s_back_needs) (by decide +kernel)) (fun _ _ _ _ _ => ⟨_, (lg_name 3 sc_back_needs.nd)⟩) (fun _ _ _ _ _ => ⟨_, lts_nil⟩) (fun _ _ _ _ _ => ⟨_, (lx_tup (la_cons (lx_var 3) (la_cons (lx_bin op_addAll ol_add (LX.v (lx_var 2)) (LX.v (lx_call (W := WN) takes0 (ok_surplus T) (hr.mono (by first | decide | omega)) rfl T.G_surplus T.K_surplus T.B_surplus (lan_cons (lx_var 0) (lan_cons (lx_var 1) (lan_cons lx_int (lan_cons (lx_var 3) lan_nil))))))) la_nil)))⟩) (by decide)))))⟩
theorem ok_closing_needs (T : Tx K mg aa1 aa2 aa3 aa4 aa5 aa6 aa7 aa8 aa9 aa10 aa11 aa12 aa13 aa14 aa15 aa16 aa17 aa18 aa19 aa20 aa21 aa22 aa23 aa24 aa25 aa26 aa27 aa28 aa29 aa30 aa31 aa32 aa33 aa34 aa35 aa36 aa37 aa38 aa39 aa40 aa41 aa42 aa43 aa44 aa45 A_Depot A_OutagainError A_OutOfRange A_BadDepot A_BadWish p_Depot_size p_Depot_places dd1 dd2 dd3 dd4 dd5 dd6 dd7 dd8 dd9 dd10 dd11 dd12 dd13 dd14 dd15 dd16 dd17 dd18 dd19 dd20 dd21 dd22 dd23 dd24 dd25 dd26 dd27 dd28 dd29 dd30 dd31 dd32 dd33 dd34 dd35 dd36 dd37 dd38 dd39 dd40 dd41 dd42 dd43 dd44 dd45) : FnOk P w K mg base (L2.CX P w) 7 aa33 dd33 ["depot", "days", "wish"] (liftSp ⟨K, mg⟩ w_closing_needs 3) :=
  fn_mk (N := ["depot", "days", "wish", "backs"]) (ps := ["depot", "days", "wish"]) (k := 6) (pb := b_closing_needs) T.F_closing_needs sc_closing_needs fun cdv A outer s H E hr => ⟨_, (lss_cons (ls_set 3 sc_closing_needs.nd (lx_call (takes_of rfl rfl rfl rfl) (ok_back_weekdays T) (hr.mono (by first | decide | omega)) rfl T.G_back_weekdays T.K_back_weekdays T.B_back_weekdays (lan_cons (lx_var 0) (lan_cons (lx_var 2) lan_nil))))
 (lss_one (ls_ret (lx_call (takes_of rfl rfl rfl rfl) (ok_back_needs T) (hr.mono (by first | decide | omega)) rfl T.G_back_needs T.K_back_needs T.B_back_needs (lan_cons (lx_call (takes_of rfl rfl rfl rfl) (ok_left_places T) (hr.mono (by first | decide | omega)) rfl T.G_left_places T.K_left_places T.B_left_places (lan_cons (lx_var 0) (lan_cons (lx_var 1) (lan_cons (lx_var 2) lan_nil)))) (lan_cons (lx_call (takes_of rfl rfl rfl rfl) (ok_free_firsts T) (hr.mono (by first | decide | omega)) rfl T.G_free_firsts T.K_free_firsts T.B_free_firsts (lan_cons (lx_var 0) (lan_cons (lx_var 2) lan_nil))) (lan_cons (lx_callB call_len cl_len rfl T.n_len bb_len (lw_cons (LX.v (lx_var 3)) lw_nil)) lan_nil)))))))⟩
theorem ok_wish_reasons (T : Tx K mg aa1 aa2 aa3 aa4 aa5 aa6 aa7 aa8 aa9 aa10 aa11 aa12 aa13 aa14 aa15 aa16 aa17 aa18 aa19 aa20 aa21 aa22 aa23 aa24 aa25 aa26 aa27 aa28 aa29 aa30 aa31 aa32 aa33 aa34 aa35 aa36 aa37 aa38 aa39 aa40 aa41 aa42 aa43 aa44 aa45 A_Depot A_OutagainError A_OutOfRange A_BadDepot A_BadWish p_Depot_size p_Depot_places dd1 dd2 dd3 dd4 dd5 dd6 dd7 dd8 dd9 dd10 dd11 dd12 dd13 dd14 dd15 dd16 dd17 dd18 dd19 dd20 dd21 dd22 dd23 dd24 dd25 dd26 dd27 dd28 dd29 dd30 dd31 dd32 dd33 dd34 dd35 dd36 dd37 dd38 dd39 dd40 dd41 dd42 dd43 dd44 dd45) : FnOk P w K mg base (L2.CX P w) 8 aa34 dd34 ["depot", "days", "wish"] (liftSp ⟨K, mg⟩ w_wish_reasons 3) :=
  fn_mk (N := ["depot", "days", "wish", "closings"]) (ps := ["depot", "days", "wish"]) (k := 7) (pb := b_wish_reasons) T.F_wish_reasons sc_wish_reasons fun cdv A outer s H E hr => ⟨_, (lss_cons (ls_set 3 sc_wish_reasons.nd (lx_meth (takes_of rfl rfl rfl rfl) T.me_Depot_closings (ok_Depot_closings T) (hr.mono (by decide)) T.B_Depot_closings (lx_var 0) (lan_cons (lx_var 1) lan_nil)))
 (lss_one (ls_ret (lx_bin op_addAll ol_add (LX.v (lx_bin op_addAll ol_add (LX.v (lx_call (takes_of rfl rfl rfl rfl) (ok_crowd_reasons T) (hr.mono (by first | decide | omega)) rfl T.G_crowd_reasons T.K_crowd_reasons T.B_crowd_reasons (lan_cons (lx_var 0) (lan_cons (lx_var 1) (lan_cons (lx_var 2) lan_nil))))) (LX.v (lx_call (takes_of rfl rfl rfl rfl) (ok_need_reasons T) (hr.mono (by first | decide | omega)) rfl T.G_need_reasons T.K_need_reasons T.B_need_reasons (lan_cons lx_str (lan_cons (lx_call (takes_of rfl rfl rfl rfl) (ok_closing_needs T) (hr.mono (by first | decide | omega)) rfl T.G_closing_needs T.K_closing_needs T.B_closing_needs (lan_cons (lx_var 0) (lan_cons (lx_var 1) (lan_cons (lx_var 2) lan_nil)))) (lan_cons (lx_bin op_mulAll ol_mul (LX.v (lx_fld T.fld_quota (lx_var 0))) (LX.v (lx_var 3))) lan_nil))))))) (LX.v (lx_call (takes_of rfl rfl rfl rfl) (ok_need_reasons T) (hr.mono (by first | decide | omega)) rfl T.G_need_reasons T.K_need_reasons T.B_need_reasons (lan_cons lx_str (lan_cons (lx_call (takes_of rfl rfl rfl rfl) (ok_late_needs T) (hr.mono (by first | decide | omega)) rfl T.G_late_needs T.K_late_needs T.B_late_needs (lan_cons (lx_var 0) (lan_cons (lx_var 1) (lan_cons (lx_var 2) lan_nil)))) (lan_cons (lx_bin op_mulAll ol_mul (LX.v (lx_fld T.fld_quota (lx_var 0))) (LX.v (lx_callB (call_max2 rfl) cl_max2 rfl T.n_max bb_max (lw_cons (LX.v lx_int) (lw_cons (LX.v (lx_bin op_sub ol_sub (LX.v (lx_var 3)) (LX.v lx_int))) lw_nil))))) lan_nil)))))))))⟩
theorem ok_deal (T : Tx K mg aa1 aa2 aa3 aa4 aa5 aa6 aa7 aa8 aa9 aa10 aa11 aa12 aa13 aa14 aa15 aa16 aa17 aa18 aa19 aa20 aa21 aa22 aa23 aa24 aa25 aa26 aa27 aa28 aa29 aa30 aa31 aa32 aa33 aa34 aa35 aa36 aa37 aa38 aa39 aa40 aa41 aa42 aa43 aa44 aa45 A_Depot A_OutagainError A_OutOfRange A_BadDepot A_BadWish p_Depot_size p_Depot_places dd1 dd2 dd3 dd4 dd5 dd6 dd7 dd8 dd9 dd10 dd11 dd12 dd13 dd14 dd15 dd16 dd17 dd18 dd19 dd20 dd21 dd22 dd23 dd24 dd25 dd26 dd27 dd28 dd29 dd30 dd31 dd32 dd33 dd34 dd35 dd36 dd37 dd38 dd39 dd40 dd41 dd42 dd43 dd44 dd45) : FnOk P w K mg base (L2.CX P w) 1 aa35 dd35 ["places", "firsts"] (liftSp ⟨K, mg⟩ w_deal 2) :=
  fn_mk (N := ["places", "firsts", "dealt", "over", "weekday", "_", "able", "at", "first", "taker"]) (ps := ["places", "firsts"]) (k := 0) (pb := b_deal) T.F_deal sc_deal fun cdv A outer s H E hr => ⟨_, (lss_cons (ls_setO 2 sc_deal.nd (lo_bin op_rep olo_rep (LO.v (lo_lst (la_cons lx_int la_nil))) (LX.v (lx_callB call_len cl_len rfl T.n_len bb_len (lw_cons (LX.v (lx_var 1)) lw_nil)))))
 (lss_cons (ls_setO 3 sc_deal.nd (lo_lst la_nil))
 (lss_cons (ls_for (passes_of rfl) rfl (li_range3 rfl T.n_range (lx_callB call_len cl_len rfl T.n_len bb_len (lw_cons (LX.v (lx_var 0)) lw_nil)) lx_int (lx_un un_neg ul_neg (LX.v lx_int))) (lg_name 4 sc_deal.nd) (lss_one (ls_for (passes_of rfl) rfl (li_range1 rfl T.n_range (lx_ix (LX.v (lx_var 0)) (LX.v (lx_bin op_sub ol_sub (LX.v (lx_var 4)) (LX.v lx_int))) (fun _ _ => rfl))) (lg_name 5 sc_deal.nd) (lss_cons (ls_setLc 6 (own := [("at", 7), ("first", 8)]) rfl sc_deal.nd (li_enum1 rfl T.n_enumerate (lx_var 1)) (blkOk_by (N := ["places", "firsts", "dealt", "over", "weekday", "_", "able", "at", "first", "taker"]) (sc := defScope s_deal) (by decide +kernel)) (fun _ _ _ _ _ => ⟨_, (lg_seq rfl (lgs_cons (lg_name 7 sc_deal.nd) (lgs_cons (lg_name 8 sc_deal.nd) lgs_nil)))⟩) (fun _ _ _ _ _ => ⟨_, (lts_one (LWt.t (lw_and (lt_cmp (op_eqD hr.units) ol_eq (LX.v (lx_ix (lv_var 2) (LX.v (lx_var 7)) (fun _ _ => rfl))) (LX.v lx_int) (nomark _)) (lw_and1 (lt_cmp L2.op_le ol_le (LX.v (lx_var 8)) (LX.v (lx_var 4)) (nomark _))))))⟩) (fun _ _ _ _ _ => ⟨_, (lx_tup (la_cons (lx_var 8) (la_cons (lx_var 7) la_nil)))⟩) (by decide))
 (lss_one (ls_if (lt_truth (LX.v (lx_var 6))) (lss_cons (ls_asgG (lx_callB (cr_max rfl) cl_maxL rfl T.n_max bb_max (lw_cons (LX.v (lx_var 6)) lw_nil)) (lg_seq rfl (lgs_cons (lg_name 5 sc_deal.nd) (lgs_cons (lg_name 9 sc_deal.nd) lgs_nil))))
 (lss_one (ls_setI 2 (lx_var 4) (lx_var 9)))) (lss_one (ls_app 3 (lx_var 4)))))))))
 (lss_one (ls_freeze 2 (ls_ret (LO.x (lo_lc (own := [("weekday", 4)]) rfl sc_deal.nd (li_seq (lx_var 2)) (blkOk_by (N := ["places", "firsts", "dealt", "over", "weekday", "_", "able", "at", "first", "taker"]) (sc := defScope s_deal) (by decide +kernel)) (fun _ _ _ _ _ => ⟨_, (lg_name 4 sc_deal.nd)⟩) (fun _ _ _ _ _ => ⟨_, lts_nil⟩) (fun _ _ _ _ _ => ⟨_, (lx_ifE (lt_cmp L2.op_gt ol_gt (LX.v (lx_var 4)) (LX.v lx_int) (nomark _)) (lx_var 4) lx_never)⟩) (by decide)))))))))⟩
theorem ok_completed (T : Tx K mg aa1 aa2 aa3 aa4 aa5 aa6 aa7 aa8 aa9 aa10 aa11 aa12 aa13 aa14 aa15 aa16 aa17 aa18 aa19 aa20 aa21 aa22 aa23 aa24 aa25 aa26 aa27 aa28 aa29 aa30 aa31 aa32 aa33 aa34 aa35 aa36 aa37 aa38 aa39 aa40 aa41 aa42 aa43 aa44 aa45 A_Depot A_OutagainError A_OutOfRange A_BadDepot A_BadWish p_Depot_size p_Depot_places dd1 dd2 dd3 dd4 dd5 dd6 dd7 dd8 dd9 dd10 dd11 dd12 dd13 dd14 dd15 dd16 dd17 dd18 dd19 dd20 dd21 dd22 dd23 dd24 dd25 dd26 dd27 dd28 dd29 dd30 dd31 dd32 dd33 dd34 dd35 dd36 dd37 dd38 dd39 dd40 dd41 dd42 dd43 dd44 dd45) : FnOk P w K mg base (L2.CX P w) 7 aa36 dd36 ["depot", "days", "wish"] (liftSp ⟨K, mg⟩ w_completed 3) :=
  fn_mk (N := ["depot", "days", "wish", "dealt", "free", "driver", "weekday", "due"]) (ps := ["depot", "days", "wish"]) (k := 6) (pb := b_completed) T.F_completed sc_completed fun cdv A outer s H E hr => ⟨_, (lss_cons (ls_set 3 sc_completed.nd (lx_call (takes_of rfl rfl rfl rfl) (ok_deal T) (hr.mono (by first | decide | omega)) rfl T.G_deal T.K_deal T.B_deal (lan_cons (lx_call (takes_of rfl rfl rfl rfl) (ok_left_places T) (hr.mono (by first | decide | omega)) rfl T.G_left_places T.K_left_places T.B_left_places (lan_cons (lx_var 0) (lan_cons (lx_var 1) (lan_cons (lx_var 2) lan_nil)))) (lan_cons (lx_call (takes_of rfl rfl rfl rfl) (ok_free_firsts T) (hr.mono (by first | decide | omega)) rfl T.G_free_firsts T.K_free_firsts T.B_free_firsts (lan_cons (lx_var 0) (lan_cons (lx_var 2) lan_nil))) lan_nil))))
 (lss_cons (ls_setLc 4 (own := [("driver", 5), ("weekday", 6)]) rfl sc_completed.nd (li_enum1 rfl T.n_enumerate (lx_var 2)) (blkOk_by (N := ["depot", "days", "wish", "dealt", "free", "driver", "weekday", "due"]) (sc := defScope s_completed) (by decide +kernel)) (fun _ _ _ _ _ => ⟨_, (lg_seq rfl (lgs_cons (lg_name 5 sc_completed.nd) (lgs_cons (lg_name 6 sc_completed.nd) lgs_nil)))⟩) (fun _ _ _ _ _ => ⟨_, (lts_one (lt_cmp (op_eqD hr.units) ol_eq (LX.v (lx_var 6)) (LX.v lx_int) (nomark _)))⟩) (fun _ _ _ _ _ => ⟨_, (lx_var 5)⟩) (by decide))
 (lss_cons (ls_setO 7 sc_completed.nd (lo_callT call_list_of cl_list rfl T.n_list bb_list (lw_cons (LX.v (lx_var 2)) lw_nil)))
 (lss_cons (ls_for (passes_of rfl) rfl (li_zip2 rfl T.n_zip (lx_var 4) (lx_var 3)) (lg_seq rfl (lgs_cons (lg_name 5 sc_completed.nd) (lgs_cons (lg_name 6 sc_completed.nd) lgs_nil))) (lss_one (ls_setI 7 (lx_var 6) (lx_var 5))))
 (lss_one (ls_freeze 7 (ls_ret (lx_var 7))))))))⟩
theorem ok_reach (T : Tx K mg aa1 aa2 aa3 aa4 aa5 aa6 aa7 aa8 aa9 aa10 aa11 aa12 aa13 aa14 aa15 aa16 aa17 aa18 aa19 aa20 aa21 aa22 aa23 aa24 aa25 aa26 aa27 aa28 aa29 aa30 aa31 aa32 aa33 aa34 aa35 aa36 aa37 aa38 aa39 aa40 aa41 aa42 aa43 aa44 aa45 A_Depot A_OutagainError A_OutOfRange A_BadDepot A_BadWish p_Depot_size p_Depot_places dd1 dd2 dd3 dd4 dd5 dd6 dd7 dd8 dd9 dd10 dd11 dd12 dd13 dd14 dd15 dd16 dd17 dd18 dd19 dd20 dd21 dd22 dd23 dd24 dd25 dd26 dd27 dd28 dd29 dd30 dd31 dd32 dd33 dd34 dd35 dd36 dd37 dd38 dd39 dd40 dd41 dd42 dd43 dd44 dd45) : FnOk P w K mg base (L2.CX P w) 9 aa37 dd37 ["depot", "days", "wish"] (liftSp ⟨K, mg⟩ w_reach 3) :=
  fn_mk (N := ["depot", "days", "wish", "reasons"]) (ps := ["depot", "days", "wish"]) (k := 8) (pb := b_reach) T.F_reach sc_reach fun cdv A outer s H E hr => ⟨_, (lss_cons (ls_expr (LX.v (lx_call (takes_of rfl rfl rfl rfl) (ok_check_days T) (hr.mono (by first | decide | omega)) rfl T.G_check_days T.K_check_days T.B_check_days (lan_cons (lx_var 1) lan_nil))))
 (lss_cons (ls_expr (LX.v (lx_call (takes_of rfl rfl rfl rfl) (ok_check_wish T) (hr.mono (by first | decide | omega)) rfl T.G_check_wish T.K_check_wish T.B_check_wish (lan_cons (lx_var 0) (lan_cons (lx_var 2) lan_nil)))))
 (lss_cons (ls_set 3 sc_reach.nd (lx_call (takes_of rfl rfl rfl rfl) (ok_wish_reasons T) (hr.mono (by first | decide | omega)) rfl T.G_wish_reasons T.K_wish_reasons T.B_wish_reasons (lan_cons (lx_var 0) (lan_cons (lx_var 1) (lan_cons (lx_var 2) lan_nil)))))
 (lss_one (ls_ret (lx_ifE (lt_truth (LX.v (lx_var 3))) (lx_ix (LX.v (lx_var 3)) (LX.v lx_int) (fun _ _ => rfl)) (lx_tup (la_cons lx_str (la_cons (lx_call (takes_of rfl rfl rfl rfl) (ok_completed T) (hr.mono (by first | decide | omega)) rfl T.G_completed T.K_completed T.B_completed (lan_cons (lx_var 0) (lan_cons (lx_var 1) (lan_cons (lx_var 2) lan_nil)))) la_nil)))))))))⟩
theorem ok__law_number (T : Tx K mg aa1 aa2 aa3 aa4 aa5 aa6 aa7 aa8 aa9 aa10 aa11 aa12 aa13 aa14 aa15 aa16 aa17 aa18 aa19 aa20 aa21 aa22 aa23 aa24 aa25 aa26 aa27 aa28 aa29 aa30 aa31 aa32 aa33 aa34 aa35 aa36 aa37 aa38 aa39 aa40 aa41 aa42 aa43 aa44 aa45 A_Depot A_OutagainError A_OutOfRange A_BadDepot A_BadWish p_Depot_size p_Depot_places dd1 dd2 dd3 dd4 dd5 dd6 dd7 dd8 dd9 dd10 dd11 dd12 dd13 dd14 dd15 dd16 dd17 dd18 dd19 dd20 dd21 dd22 dd23 dd24 dd25 dd26 dd27 dd28 dd29 dd30 dd31 dd32 dd33 dd34 dd35 dd36 dd37 dd38 dd39 dd40 dd41 dd42 dd43 dd44 dd45) : FnOk P w K mg base (L2.CX P w) 1 aa38 dd38 ["got"] (liftSp ⟨K, mg⟩ w__law_number 1) :=
  fn_mk (N := ["got"]) (ps := ["got"]) (k := 0) (pb := b__law_number) T.F__law_number sc__law_number fun cdv A outer s H E hr => ⟨_, (lss_one (ls_ret (lx_and (lx_isT "int" isTy_int (LX.v (lx_var 0)) rfl T.n_isinstance rfl T.n_int bb_int bb_isinstance) (lx_one (lx_not (LX.v (lx_isT "bool" isTy_bool (LX.v (lx_var 0)) rfl T.n_isinstance rfl T.n_bool bb_bool bb_isinstance)))))))⟩
theorem ok__law_same (T : Tx K mg aa1 aa2 aa3 aa4 aa5 aa6 aa7 aa8 aa9 aa10 aa11 aa12 aa13 aa14 aa15 aa16 aa17 aa18 aa19 aa20 aa21 aa22 aa23 aa24 aa25 aa26 aa27 aa28 aa29 aa30 aa31 aa32 aa33 aa34 aa35 aa36 aa37 aa38 aa39 aa40 aa41 aa42 aa43 aa44 aa45 A_Depot A_OutagainError A_OutOfRange A_BadDepot A_BadWish p_Depot_size p_Depot_places dd1 dd2 dd3 dd4 dd5 dd6 dd7 dd8 dd9 dd10 dd11 dd12 dd13 dd14 dd15 dd16 dd17 dd18 dd19 dd20 dd21 dd22 dd23 dd24 dd25 dd26 dd27 dd28 dd29 dd30 dd31 dd32 dd33 dd34 dd35 dd36 dd37 dd38 dd39 dd40 dd41 dd42 dd43 dd44 dd45) : ∀ n : Nat, FnOk P w K mg base (L2.CX P w) (2 + n) aa39 dd39 ["got", "due"] (liftSp ⟨K, mg⟩ (w__law_same n) 2)
  | 0 => fn_never
  | n + 1 => by
    have IH := ok__law_same T n
    exact fn_mk (N := ["got", "due", "k"]) (ps := ["got", "due"]) (k := 2 + n) (pb := b__law_same (w__law_same n)) T.F__law_same sc__law_same fun cdv A outer s H E hr => ⟨_, (lss_cons (ls_if (lt_cmp op_isN ol_isN (LX.v (lx_var 1)) (LX.v lx_non) (nomark _)) (lss_one (ls_ret (lx_cmp op_isN ol_isN (LX.v (lx_var 0)) (LX.v lx_non) (nomark _)))) lss_nil)
 (lss_cons (ls_if (lt_truth (LX.v (lx_isT "bool" isTy_bool (LX.v (lx_var 1)) rfl T.n_isinstance rfl T.n_bool bb_bool bb_isinstance))) (lss_one (ls_ret (lx_and (lx_isT "bool" isTy_bool (LX.v (lx_var 0)) rfl T.n_isinstance rfl T.n_bool bb_bool bb_isinstance) (lx_one (lx_cmp (op_eqD hr.units) ol_eq (LX.v (lx_var 0)) (LX.v (lx_var 1)) (nomark _)))))) lss_nil)
 (lss_cons (ls_if (lt_truth (LX.v (lx_isT "int" isTy_int (LX.v (lx_var 1)) rfl T.n_isinstance rfl T.n_int bb_int bb_isinstance))) (lss_one (ls_ret (lx_and (lx_call (takes_of rfl rfl rfl rfl) (ok__law_number T) (hr.mono (by first | decide | omega)) rfl T.G__law_number T.K__law_number T.B__law_number (lan_cons (lx_var 0) lan_nil)) (lx_one (lx_cmp (op_eqD hr.units) ol_eq (LX.v (lx_var 0)) (LX.v (lx_var 1)) (nomark _)))))) lss_nil)
 (lss_cons (ls_if (lt_truth (LX.v (lx_isT "str" isTy_str (LX.v (lx_var 1)) rfl T.n_isinstance rfl T.n_str bb_str bb_isinstance))) (lss_one (ls_ret (lx_and (lx_isT "str" isTy_str (LX.v (lx_var 0)) rfl T.n_isinstance rfl T.n_str bb_str bb_isinstance) (lx_one (lx_cmp (op_eqD hr.units) ol_eq (LX.v (lx_var 0)) (LX.v (lx_var 1)) (nomark _)))))) lss_nil)
 (lss_cons (ls_if (LWt.t (lw_and (lt_truth (LX.v (lx_isT "list" isTy_list (LX.v (lx_var 1)) rfl T.n_isinstance rfl T.n_list bb_list bb_isinstance))) (lw_and1 (lt_not (lt_truth (LX.v (lx_isT "list" isTy_list (LX.v (lx_var 0)) rfl T.n_isinstance rfl T.n_list bb_list bb_isinstance))))))) (lss_one (ls_ret lx_bl)) lss_nil)
 (lss_cons (ls_if (LWt.t (lw_and (lt_truth (LX.v (lx_isT "tuple" isTy_tuple (LX.v (lx_var 1)) rfl T.n_isinstance rfl T.n_tuple bb_tuple bb_isinstance))) (lw_and1 (lt_not (lt_truth (LX.v (lx_isT "tuple" isTy_tuple (LX.v (lx_var 0)) rfl T.n_isinstance rfl T.n_tuple bb_tuple bb_isinstance))))))) (lss_one (ls_ret lx_bl)) lss_nil)
 (lss_cons (ls_if (lt_cmp (op_neD hr.units) ol_ne (LX.v (lx_callB call_len cl_len rfl T.n_len bb_len (lw_cons (LX.v (lx_var 0)) lw_nil))) (LX.v (lx_callB call_len cl_len rfl T.n_len bb_len (lw_cons (LX.v (lx_var 1)) lw_nil))) (nomark _)) (lss_one (ls_ret lx_bl)) lss_nil)
 (lss_cons (ls_for (passes_of rfl) rfl (li_range1 rfl T.n_range (lx_callB call_len cl_len rfl T.n_len bb_len (lw_cons (LX.v (lx_var 1)) lw_nil))) (lg_name 2 sc__law_same.nd) (lss_one (ls_if (lt_not (lt_truth (LX.v (lx_call (takes_of rfl rfl rfl rfl) IH (hr.mono (by first | decide | omega)) rfl T.G__law_same T.K__law_same T.B__law_same (lan_cons (lx_ix (LX.v (lx_var 0)) (LX.v (lx_var 2)) (fun _ _ => rfl)) (lan_cons (lx_ix (LX.v (lx_var 1)) (LX.v (lx_var 2)) (fun _ _ => rfl)) lan_nil)))))) (lss_one (ls_ret lx_bl)) lss_nil)))
 (lss_one (ls_ret lx_bl))))))))))⟩
theorem ok__law_right (T : Tx K mg aa1 aa2 aa3 aa4 aa5 aa6 aa7 aa8 aa9 aa10 aa11 aa12 aa13 aa14 aa15 aa16 aa17 aa18 aa19 aa20 aa21 aa22 aa23 aa24 aa25 aa26 aa27 aa28 aa29 aa30 aa31 aa32 aa33 aa34 aa35 aa36 aa37 aa38 aa39 aa40 aa41 aa42 aa43 aa44 aa45 A_Depot A_OutagainError A_OutOfRange A_BadDepot A_BadWish p_Depot_size p_Depot_places dd1 dd2 dd3 dd4 dd5 dd6 dd7 dd8 dd9 dd10 dd11 dd12 dd13 dd14 dd15 dd16 dd17 dd18 dd19 dd20 dd21 dd22 dd23 dd24 dd25 dd26 dd27 dd28 dd29 dd30 dd31 dd32 dd33 dd34 dd35 dd36 dd37 dd38 dd39 dd40 dd41 dd42 dd43 dd44 dd45) : FnOk P w K mg base (L2.CX P w) 9 aa40 dd40 ["got", "due", "z", "m"] (liftSp ⟨K, mg⟩ w__law_right 4) :=
  fn_mk (N := ["got", "due", "z", "m"]) (ps := ["got", "due", "z", "m"]) (k := 8) (pb := b__law_right) T.F__law_right sc__law_right fun cdv A outer s H E hr => ⟨_, (lss_cons (ls_if (LWt.t (lw_or (lt_cmp (op_eqD hr.units) ol_eq (LX.v (lx_ix (LX.v (lx_var 1)) (LX.v lx_int) (fun _ _ => rfl))) (LX.v lx_str) (nomark _)) (lw_or1 (lt_cmp (op_eqD hr.units) ol_eq (LX.v (lx_ix (LX.v (lx_var 1)) (LX.v lx_int) (fun _ _ => rfl))) (LX.v lx_str) (nomark _))))) (lss_one (ls_ret (lx_call (takes_of rfl rfl rfl rfl) (ok__law_same T 6) (hr.mono (by first | decide | omega)) rfl T.G__law_same T.K__law_same T.B__law_same (lan_cons (lx_var 0) (lan_cons (lx_var 1) lan_nil))))) lss_nil)
 (lss_cons (ls_if (LWt.t (lw_or (lt_not (lt_truth (LX.v (lx_isT "tuple" isTy_tuple (LX.v (lx_var 0)) rfl T.n_isinstance rfl T.n_tuple bb_tuple bb_isinstance)))) (lw_or (lt_cmp (op_neD hr.units) ol_ne (LX.v (lx_callB call_len cl_len rfl T.n_len bb_len (lw_cons (LX.v (lx_var 0)) lw_nil))) (LX.v lx_int) (nomark _)) (lw_or1 (lt_not (lt_truth (LX.v (lx_call (takes_of rfl rfl rfl rfl) (ok__law_number T) (hr.mono (by first | decide | omega)) rfl T.G__law_number T.K__law_number T.B__law_number (lan_cons (lx_ix (LX.v (lx_var 0)) (LX.v lx_int) (fun _ _ => rfl)) lan_nil))))))))) (lss_one (ls_ret lx_bl)) lss_nil)
 (lss_cons (ls_if (LWt.t (lw_or (lt_cmp L2.op_gt ol_gt (LX.v (lx_ix (LX.v (lx_var 0)) (LX.v lx_int) (fun _ _ => rfl))) (LX.v (lx_var 3)) (nomark _)) (lw_or (lt_cmp L2.op_lt ol_lt (LX.v (lx_ix (LX.v (lx_var 0)) (LX.v lx_int) (fun _ _ => rfl))) (LX.v lx_int) (nomark _)) (lw_or1 (LWt.t (lw_and (lt_cmp (op_eqD hr.units) ol_eq (LX.v (lx_ix (LX.v (lx_var 1)) (LX.v lx_int) (fun _ _ => rfl))) (LX.v lx_str) (nomark _)) (lw_and1 (lt_cmp L2.op_lt ol_lt (LX.v (lx_ix (LX.v (lx_var 0)) (LX.v lx_int) (fun _ _ => rfl))) (LX.v (lx_var 2)) (nomark _))))))))) (lss_one (ls_ret lx_bl)) lss_nil)
 (lss_one (ls_ret (lx_call (takes_of rfl rfl rfl rfl) (ok__law_same T 6) (hr.mono (by first | decide | omega)) rfl T.G__law_same T.K__law_same T.B__law_same (lan_cons (lx_var 0) (lan_cons (lx_tup (la_cons (lx_ix (LX.v (lx_var 1)) (LX.v lx_int) (fun _ _ => rfl)) (la_cons (lx_ix (LX.v (lx_var 0)) (LX.v lx_int) (fun _ _ => rfl)) (la_cons (lx_ix (LX.v (lx_var 1)) (LX.v lx_int) (fun _ _ => rfl)) (la_cons (lx_ix (LX.v (lx_var 1)) (LX.v lx_int) (fun _ _ => rfl)) la_nil))))) lan_nil))))))))⟩
theorem ok__law_twice (T : Tx K mg aa1 aa2 aa3 aa4 aa5 aa6 aa7 aa8 aa9 aa10 aa11 aa12 aa13 aa14 aa15 aa16 aa17 aa18 aa19 aa20 aa21 aa22 aa23 aa24 aa25 aa26 aa27 aa28 aa29 aa30 aa31 aa32 aa33 aa34 aa35 aa36 aa37 aa38 aa39 aa40 aa41 aa42 aa43 aa44 aa45 A_Depot A_OutagainError A_OutOfRange A_BadDepot A_BadWish p_Depot_size p_Depot_places dd1 dd2 dd3 dd4 dd5 dd6 dd7 dd8 dd9 dd10 dd11 dd12 dd13 dd14 dd15 dd16 dd17 dd18 dd19 dd20 dd21 dd22 dd23 dd24 dd25 dd26 dd27 dd28 dd29 dd30 dd31 dd32 dd33 dd34 dd35 dd36 dd37 dd38 dd39 dd40 dd41 dd42 dd43 dd44 dd45) : FnOk P w K mg base (L2.CX P w) 10 aa41 dd41 ["plan", "depot", "span", "wish"] (liftSp ⟨K, mg⟩ w__law_twice 4) :=
  fn_mk (N := ["plan", "depot", "span", "wish", "z", "due", "handed", "got"]) (ps := ["plan", "depot", "span", "wish"]) (k := 9) (pb := b__law_twice) T.F__law_twice sc__law_twice fun cdv A outer s H E hr => ⟨_, (lss_cons (ls_set 4 sc__law_twice.nd (lx_bin op_addAll ol_add (LX.v (lx_bin op_mod ol_mod (LX.v (lx_callT call_int1 cl_int rfl T.n_int bb_int (lw_cons (LX.v (lx_var 2)) lw_nil))) (LX.v (lx_ix (LX.v (lx_var 0)) (LX.v lx_int) (fun _ _ => rfl))))) (LX.v lx_int)))
 (lss_cons (ls_set 5 sc__law_twice.nd (lx_call (takes_of rfl rfl rfl rfl) (ok__law_counted T) (hr.mono (by first | decide | omega)) rfl T.G__law_counted T.K__law_counted T.B__law_counted (lan_cons (lx_var 0) (lan_cons (lx_var 2) (lan_cons (lx_var 3) lan_nil)))))
 (lss_cons (ls_setO 6 sc__law_twice.nd (lo_callT call_list_of cl_list rfl T.n_list bb_list (lw_cons (LX.v (lx_var 3)) lw_nil)))
 (lss_cons (ls_asgT 7 [false, true, true, false, false, false, true, false] sc__law_twice.nd (lx_call (takes_of rfl rfl rfl rfl) (ok_reach T) (hr.mono (by first | decide | omega)) rfl T.G_reach T.K_reach T.B_reach (lan_cons (lx_var 1) (lan_cons (lx_var 2) (lan_cons (lx_var 6) lan_nil)))))
 (lss_cons (ls_if (LWt.t (lw_or (lt_cmp (op_neD hr.units) ol_ne (lv_var 6) (LX.v (lx_var 3)) (nomark _)) (lw_or1 (lt_vw [true, false, false, false, true, true, false, true] (lt_not (lt_truth (LX.v (lx_call (takes_of rfl rfl rfl rfl) (ok__law_right T) (hr.mono (by first | decide | omega)) rfl T.G__law_right T.K__law_right T.B__law_right (lan_cons (lx_var 7) (lan_cons (lx_var 5) (lan_cons (lx_var 4) (lan_cons (lx_ix (LX.v (lx_var 0)) (LX.v lx_int) (fun _ _ => rfl)) lan_nil)))))))))))) (lss_one (ls_ret lx_bl)) lss_nil)
 (lss_cons (ls_setI 6 lx_int lx_int)
 (lss_cons (ls_if (lt_cmp (op_eqD hr.units) ol_eq (LX.v (lx_ix (LX.v (lx_var 5)) (LX.v lx_int) (fun _ _ => rfl))) (LX.v lx_str) (nomark _)) (lss_cons (ls_trSet true lx_int (ltr_ix (ltr_var 7) lx_int (fun _ _ => rfl)) lx_int)
 (lss_one (ls_trApp true (ltr_ix (ltr_var 7) lx_int (fun _ _ => rfl)) lx_int))) lss_nil)
 (lss_one (ls_ret (lx_call (takes_of rfl rfl rfl rfl) (ok__law_right T) (hr.mono (by first | decide | omega)) rfl T.G__law_right T.K__law_right T.B__law_right (lan_cons (lx_call (takes_of rfl rfl rfl rfl) (ok_reach T) (hr.mono (by first | decide | omega)) rfl T.G_reach T.K_reach T.B_reach (lan_cons (lx_var 1) (lan_cons (lx_var 2) (lan_cons (lx_callT call_tupN cl_tuple rfl T.n_tuple bb_tuple (lw_cons (LX.v (lx_var 3)) lw_nil)) lan_nil)))) (lan_cons (lx_var 5) (lan_cons (lx_var 4) (lan_cons (lx_ix (LX.v (lx_var 0)) (LX.v lx_int) (fun _ _ => rfl)) lan_nil))))))))))))))⟩
theorem ok_law (T : Tx K mg aa1 aa2 aa3 aa4 aa5 aa6 aa7 aa8 aa9 aa10 aa11 aa12 aa13 aa14 aa15 aa16 aa17 aa18 aa19 aa20 aa21 aa22 aa23 aa24 aa25 aa26 aa27 aa28 aa29 aa30 aa31 aa32 aa33 aa34 aa35 aa36 aa37 aa38 aa39 aa40 aa41 aa42 aa43 aa44 aa45 A_Depot A_OutagainError A_OutOfRange A_BadDepot A_BadWish p_Depot_size p_Depot_places dd1 dd2 dd3 dd4 dd5 dd6 dd7 dd8 dd9 dd10 dd11 dd12 dd13 dd14 dd15 dd16 dd17 dd18 dd19 dd20 dd21 dd22 dd23 dd24 dd25 dd26 dd27 dd28 dd29 dd30 dd31 dd32 dd33 dd34 dd35 dd36 dd37 dd38 dd39 dd40 dd41 dd42 dd43 dd44 dd45) : FnOk P w K mg base (L2.CX P w) 11 aa42 dd42 ["script"] (liftSp ⟨K, mg⟩ w_law 1) :=
  fn_mk (N := ["script", "pool", "plan", "m", "z", "j", "wish", "fewest", "depot", "many"]) (ps := ["script"]) (k := 10) (pb := b_law) T.F_law sc_law fun cdv A outer s H E hr => ⟨_, (lss_cons (ls_set 1 sc_law.nd (lx_call (takes_of rfl rfl rfl rfl) (ok__law_pool T) (hr.mono (by first | decide | omega)) rfl T.G__law_pool T.K__law_pool T.B__law_pool (lan_cons (lx_var 0) lan_nil)))
 (lss_cons (ls_set 2 sc_law.nd (lx_call (takes_of rfl rfl rfl rfl) (ok__law_depot T) (hr.mono (by first | decide | omega)) rfl T.G__law_depot T.K__law_depot T.B__law_depot (lan_cons (lx_var 1) (lan_cons lx_int (lan_cons lx_int lan_nil)))))
 (lss_cons (ls_if (lt_cmp (op_eqD hr.units) ol_eq (LX.v (lx_call (takes_of rfl rfl rfl rfl) (ok__law_take T) (hr.mono (by first | decide | omega)) rfl T.G__law_take T.K__law_take T.B__law_take (lan_cons (lx_var 1) (lan_cons lx_int lan_nil)))) (LX.v lx_int) (nomark _)) (lss_one (ls_set 2 sc_law.nd (lx_call (takes_of rfl rfl rfl rfl) (ok__law_steep T) (hr.mono (by first | decide | omega)) rfl T.G__law_steep T.K__law_steep T.B__law_steep (lan_cons (lx_var 1) (lan_cons lx_int lan_nil))))) lss_nil)
 (lss_cons (ls_set 3 sc_law.nd (lx_ix (LX.v (lx_var 2)) (LX.v lx_int) (fun _ _ => rfl)))
 (lss_cons (ls_set 4 sc_law.nd (lx_bin op_addAll ol_add (LX.v lx_int) (LX.v (lx_call (takes_of rfl rfl rfl rfl) (ok__law_take T) (hr.mono (by first | decide | omega)) rfl T.G__law_take T.K__law_take T.B__law_take (lan_cons (lx_var 1) (lan_cons (lx_var 3) lan_nil))))))
 (lss_cons (ls_set 5 sc_law.nd (lx_call (takes_of rfl rfl rfl rfl) (ok__law_take T) (hr.mono (by first | decide | omega)) rfl T.G__law_take T.K__law_take T.B__law_take (lan_cons (lx_var 1) (lan_cons lx_int lan_nil))))
 (lss_cons (ls_if (lt_cmp (op_eqD hr.units) ol_eq (LX.v (lx_call (takes_of rfl rfl rfl rfl) (ok__law_take T) (hr.mono (by first | decide | omega)) rfl T.G__law_take T.K__law_take T.B__law_take (lan_cons (lx_var 1) (lan_cons lx_int lan_nil)))) (LX.v lx_int) (nomark _)) (lss_one (ls_set 5 sc_law.nd (lx_call (takes_of rfl rfl rfl rfl) (ok__law_great T) (hr.mono (by first | decide | omega)) rfl T.G__law_great T.K__law_great T.B__law_great (lan_cons (lx_var 1) (lan_cons (lx_bin op_fdivW ol_div (LX.v (lx_bin op_addAll ol_add (LX.v (lx_bin op_sub ol_sub (LX.v (lx_bin op_pow ol_pow (LX.v lx_int) (LX.v lx_int))) (LX.v (lx_var 4)))) (LX.v lx_int))) (LX.v (lx_var 3))) lan_nil))))) lss_nil)
 (lss_cons (ls_set 6 sc_law.nd (lx_call (takes_of rfl rfl rfl rfl) (ok__law_everybody T) (hr.mono (by first | decide | omega)) rfl T.G__law_everybody T.K__law_everybody T.B__law_everybody (lan_cons (lx_var 1) (lan_cons (lx_var 2) (lan_cons (lx_bin op_sub ol_sub (LX.v (lx_bin op_addAll ol_add (LX.v (lx_bin op_mulAll ol_mul (LX.v (lx_var 3)) (LX.v (lx_var 5)))) (LX.v (lx_var 4)))) (LX.v lx_int)) lan_nil)))))
 (lss_cons (ls_set 7 sc_law.nd (lx_call (takes_of rfl rfl rfl rfl) (ok__law_fewest T) (hr.mono (by first | decide | omega)) rfl T.G__law_fewest T.K__law_fewest T.B__law_fewest (lan_cons (lx_var 2) (lan_cons (lx_var 4) (lan_cons (lx_var 6) lan_nil)))))
 (lss_cons (ls_set 8 sc_law.nd (lx_make (c := 0) (takes_of rfl rfl rfl rfl) T.mk_Depot T.m_Depot (ok_DepotU_initU T) (hr.mono (by decide)) rfl T.B_DepotU_initU (lan_cons (lx_ix (LX.v (lx_var 2)) (LX.v lx_int) (fun _ _ => rfl)) (lan_cons (lx_ix (LX.v (lx_var 2)) (LX.v lx_int) (fun _ _ => rfl)) (lan_cons (LO.x (lo_callT call_list_of cl_list rfl T.n_list bb_list (lw_cons (LX.v (lx_ix (LX.v (lx_var 2)) (LX.v lx_int) (fun _ _ => rfl))) lw_nil))) lan_nil)))))
 (lss_cons (ls_for (passes_of rfl) rfl (li_seq (LO.x (lo_lst (la_cons (lx_var 5) (la_cons (lx_var 7) (la_cons (lx_bin op_sub ol_sub (LX.v (lx_var 7)) (LX.v lx_int)) (la_cons (lx_var 5) la_nil))))))) (lg_name 9 sc_law.nd) (lss_one (ls_if (LWt.t (lw_and (lt_cmp L2.op_ge ol_ge (LX.v (lx_var 9)) (LX.v lx_int) (nomark _)) (lw_and1 (lt_not (lt_truth (LX.v (lx_call (takes_of rfl rfl rfl rfl) (ok__law_twice T) (hr.mono (by first | decide | omega)) rfl T.G__law_twice T.K__law_twice T.B__law_twice (lan_cons (lx_var 2) (lan_cons (lx_var 8) (lan_cons (lx_bin op_sub ol_sub (LX.v (lx_bin op_addAll ol_add (LX.v (lx_bin op_mulAll ol_mul (LX.v (lx_var 3)) (LX.v (lx_var 9)))) (LX.v (lx_var 4)))) (LX.v lx_int)) (lan_cons (lx_var 6) lan_nil))))))))))) (lss_one (ls_ret lx_bl)) lss_nil)))
 (lss_one (ls_ret lx_bl)))))))))))))⟩
end
end Pu
set_option Elab.async false
set_option linter.all false
set_option maxRecDepth 100000
set_option maxHeartbeats 2000000
set_option autoImplicit false
namespace Pu
open PySem PySem.Spec PyProof.Rows L2
set_option hygiene false in
local macro_rules | `(tactic| infer_instance) => `(tactic| (first
  | (with_reducible refine e_c ?_)
  | ((with_reducible refine' e_var ?hh ?_); (case hh => rfl))
  | (with_reducible refine e_op ?_)
  | (with_reducible refine a_cons ?_)
  | (with_reducible refine a_nil ?_)
  | (with_reducible refine e_call ?_)
  | (with_reducible refine t_tst ?_)
  | (with_reducible refine w_if ?_)
  | (with_reducible refine w_asg ?_)
  | ((with_reducible refine' o_ixL ?hh ?_); (case hh => rfl))
  | ((with_reducible refine' o_ixT ?hh ?_); (case hh => rfl))
  | (with_reducible refine w_tt ?_)
  | (with_reducible refine w_ff ?_)
  | (with_reducible refine w_next ?_)
  | (with_reducible refine w_ret ?_)
  | (with_reducible refine w_dec (fun c => ?_) (fun c => ?_))
  | (with_reducible refine o_add ?_)
  | (with_reducible refine o_sub ?_)
  | (with_reducible refine o_eq ?_)
  | (with_reducible refine o_lt ?_)
  | (with_reducible refine o_gt ?_)
  | (with_reducible refine e_cb ?_)
  | ((with_reducible refine' e_varV ?hh ?_); (case hh => rfl))
  | ((with_reducible refine' e_varO ?hh ?_); (case hh => rfl))
  | (with_reducible refine w_asgO ?_)
  | ((with_reducible refine' w_fzO ?hh ?_); (case hh => rfl))
  | ((with_reducible refine' w_fzD ?hh ?_); (case hh => rfl))
  | ((with_reducible refine' w_insK ?hh ?_); (case hh => rfl))
  | ((with_reducible refine' w_appK ?hh ?_); (case hh => rfl))
  | (with_reducible refine e_tup ?_)
  | (with_reducible refine e_lst ?_)
  | (with_reducible refine o_rep ?_ ?_ ?_)
  | (with_reducible refine w_raise ?_)
  | (with_reducible refine w_retN ?_)
  | (with_reducible refine w_brk ?_)
  | (with_reducible refine w_cnt ?_)
  | (with_reducible refine e_chain ?_)
  | (with_reducible refine t_truK ?_)
  | (with_reducible refine e_ifE ?_)
  | (with_reducible refine l_enum ?_)
  | (with_reducible refine l_zip2 ?_)
  | (with_reducible refine l_zip3 ?_)
  | (with_reducible refine e_revL ?_)
  | (with_reducible refine e_lRg1 ?_)
  | (with_reducible refine e_lRg2 ?_)
  | (with_reducible refine e_lc2 ?_)
  | (with_reducible refine w_tryAll ?_)
  | (with_reducible refine g_seq2 ?_)
  | (with_reducible refine g_cons ?_)
  | (with_reducible refine g_nil ?_)
  | ((with_reducible refine' w_setF ?hh ?h3 ?_); (case hh => rfl); (case h3 => rfl))
  | ((with_reducible refine' w_ext ?hh ?_); (case hh => rfl))
  | ((with_reducible refine' e_makeV ?hh ?_); (case hh => rfl))
  | (with_reducible refine e_makeW ?_)
  | (with_reducible refine e_make ?_)
  | (with_reducible refine w_for ?_)
  | (with_reducible refine w_for1 ?_)
  | (with_reducible refine w_for0 ?_)
  | (with_reducible refine l_range1 ?_)
  | (with_reducible refine l_range2 ?_)
  | (with_reducible refine l_seq ?_)
  | (with_reducible refine g_name ?_)
  | (with_reducible refine w_drop ?_)
  | (with_reducible refine e_and ?_)
  | (with_reducible refine e_or ?_)
  | (with_reducible refine e_not ?_)
  | (with_reducible refine e_isT ?_)
  | (with_reducible refine e_isC ?_)
  | (with_reducible refine e_fld ?_)
  | (with_reducible refine e_prop ?_)
  | (with_reducible refine e_meth ?_)
  | (with_reducible refine e_callW ?_)
  | (with_reducible refine e_cm ?_)
  | (with_reducible refine w_try ?_)
  | (with_reducible refine w_lc ?_)
  | (with_reducible refine k_truB ?_)
  | (with_reducible refine k_truN ?_)
  | (with_reducible refine k_obj ?_)
  | ((with_reducible refine' k_clN ?hh ?_); (case hh => rfl))
  | ((with_reducible refine' k_fld ?hh ?h3 ?_); (case hh => rfl); (case h3 => rfl))
  | ((with_reducible refine' o_listI ?hh ?_); (case hh => rfl))
  | ((with_reducible refine' o_tupI ?hh ?_); (case hh => rfl))
  | ((with_reducible refine' e_xm ?hh ?h3 ?h4 ?_); (case hh => rfl); (case h3 => rfl); (case h4 => rfl))
  | ((with_reducible refine' e_isX ?hh ?h3 ?_); (case hh => rfl); (case h3 => rfl))
  | (with_reducible refine o_eqB ?_)
  | (with_reducible refine t_and ?_)
  | (with_reducible refine t_or ?_)
  | (with_reducible refine t_not ?_)
  | (with_reducible refine o_ge ?_)
  | (with_reducible refine o_le ?_)
  | (with_reducible refine o_ne ?_)
  | (with_reducible refine o_mod ?_ ?_)
  | (with_reducible refine o_div ?_ ?_ ?_)
  | (with_reducible refine o_mul ?_ ?_)
  | (with_reducible refine o_pow8 ?_)
  | (with_reducible refine o_pow12 ?_)
  | (with_reducible refine o_pow18 ?_)
  | (with_reducible refine o_pow25 ?_)
  | (with_reducible refine o_pow30 ?_)
  | (with_reducible refine o_pow31 ?_)
  | ((with_reducible refine o_pow ?hh ?h3 ?h4 ?_); (case hh => decide); (case h3 => decide); (case h4 => decide))
  | (with_reducible refine o_lenL ?_)
  | (with_reducible refine o_lenT ?_)
  | (with_reducible refine o_lenW ?_)
  | (with_reducible refine o_lenP ?_)
  | (with_reducible refine o_int ?_)
  | (with_reducible refine o_intB ?_)
  | (with_reducible refine o_abs ?_)
  | (with_reducible refine o_min ?_)
  | (with_reducible refine o_max ?_)
  | (with_reducible refine o_ixPool (fun s hs => ?_))
  | (with_reducible refine r_rng4 ?_)
  | ((with_reducible refine o_ixP ?hh ?h3 (fun z hz => ?_)); (case hh => omega); (case h3 => omega))
  | ((with_reducible refine' w_setO ?hh ?_); (case hh => rfl))
  | (with_reducible refine k_setI ?_ ?_ ?_)
  | ((with_reducible refine' o_set ?hh ?_); (case hh => rfl))
  | (with_reducible refine w_ndec (fun c => ?_) (fun c => ?_))
  | (with_reducible refine w_nff ?_)
  | (with_reducible refine w_ntt ?_)
  | (with_reducible refine And.intro ?_ ?_)
  | ((with_reducible refine' k_tyt ?hh ?_); (case hh => rfl))
  | ((with_reducible refine' k_tyf ?hh ?_); (case hh => rfl))
  | ((with_reducible refine' k_clOt ?hh ?h3 ?_); (case hh => decide); (case h3 => decide))
  | ((with_reducible refine' k_clOf ?hh ?h3 ?_); (case hh => decide); (case h3 => decide))
  | ((with_reducible refine' o_isNf ?hh ?_); (case hh => rfl))
  | ((with_reducible refine' o_isNt ?hh ?_); (case hh => rfl))
  | ((with_reducible refine' o_notNf ?hh ?_); (case hh => rfl))
  | ((with_reducible refine' o_notNt ?hh ?_); (case hh => rfl))
  | (with_reducible refine e_un ?_)
  | (with_reducible refine o_neg ?_)
  | ((with_reducible refine' l_itR ?hh ?_); (case hh => rfl))
  | ((with_reducible refine' w_popK ?hh ?_); (case hh => rfl))
  | (with_reducible refine k_appI ?_ ?_)
  | (with_reducible refine k_app ?_ ?_)
  | (with_reducible refine k_insI ?_ ?_ ?_ ?_)
  | (with_reducible refine k_popM ?_ ?_ ?_ ?_)
  | (with_reducible refine k_int ?_)
  | (with_reducible refine k_exI ?_)
  | (with_reducible refine t_yes ?_)
  | ((with_reducible refine' e_fldS ?hh ?h3 ?_); (case hh => rfl); (case h3 => rfl))
  | (with_reducible refine e_sl ?_)
  | (with_reducible refine e_part ?_)
  | (with_reducible refine e_no ?_)
  | (with_reducible refine k_intO ?_)))
theorem tr_take {limit : Int} {Qt : Int → Prop} {P : D → Prop} {P2 : Exn → Prop} (c : takeOk limit) (h : takeT limit Qt) (hq : ∀ r, Qt r → P (D.int r)) : w__law_take [D.pool, D.int limit] P P2 := by
  unfold w__law_take wpPl
  refine ⟨rfl, fun p l s0 s1 s2 s3 ns hB => ?_⟩
  have h1 := c.1
  have h2 := c.2
  obtain ⟨hn, b0, b1, b2, b3, b4, b5⟩ := hB
  have hm : ∀ a : Int, 0 ≤ a % limit ∧ a % limit < limit := fun a => ⟨Int.emod_nonneg _ (by omega), Int.emod_lt_of_pos _ (by omega)⟩
  unfold b__law_take
  repeat' (first | infer_instance | (with_reducible refine w_seq ?_) | fail)
  all_goals first
    | decide
    | omega
    | exact hq _ (h _ (hm _).1 (hm _).2)
    | (refine ⟨_, _, _, _, rfl, hn, ?_, ?_, ?_, ?_, ?_, ?_⟩ <;> first | omega | (refine Int.ediv_nonneg ?_ ?_ <;> first | omega | (split <;> omega)))
theorem atI_nat {ds : List D} {i : Nat} (h : i < ds.length) : atI ds (0 + (i : Int)) = some (ds[i]'h) := by
  unfold atI ixN
  rw [if_pos (by omega), if_pos (by omega)]
  show ds[(0 + (i : Int)).toNat]? = _
  rw [Int.zero_add, Int.toNat_natCast, List.getElem?_eq_getElem h]
theorem number_int {i : Int} {P : D → Prop} {P2 : Exn → Prop} (q : P (.bl true)) : w__law_number [.int i] P P2 := by
  unfold w__law_number wpB b__law_number
  repeat' (first | infer_instance | (with_reducible refine w_seq ?_) | fail)
  all_goals exact q
set_option hygiene false in
local macro_rules | `(tactic| infer_instance) => `(tactic| (with_reducible refine number_int ?_))
theorem same_loop {n : Nat} {ds : List D} {d : D} {P : D → Prop} {P2 : Exn → Prop} (IH : ∀ d, okS n d → ∀ {P : D → Prop} {P2 : Exn → Prop}, P (.bl true) → w__law_same n [d, d] P P2) (hd : itemsD d = some ds) (hi : ∀ i : Int, ∀ x, atI ds i = some x → ∀ K : D → Prop, K x → fIx d (.int i) K)
    (hk : ∀ x ∈ ds, okS n x) (q : P (.bl true)) (o2 : Option S) :
    pForL (pgName 2) (pIf (pNotT (pTru (pCall (w__law_same n) (pCons (pOp fIx (pVar 0) (pVar 2)) (pCons (pOp fIx (pVar 1) (pVar 2)) pNil))))) (pRet (pC (.bl false))) pNext) { nx := pRet (pC (.bl true)) { nx := fun _ => P .non, rt := fun _ => P, bk := fun _ => False, ct := fun _ => False, ex := fun _ => P2 }, rt := fun _ => P, bk := fun _ => False, ct := fun _ => False, ex := fun _ => P2 } (rangeD 0 ds.length) [some (.d d), some (.d d), o2] := by
  refine w_forP (fun (i : Nat) => D.int (0 + i)) (List.range ds.length) (fun _ δ => ∃ o, δ = [some (.d d), some (.d d), o]) (rangeD_map _ _) ?_ ?_ ⟨_, rfl⟩
  · rintro δ ⟨o, rfl⟩
    exact q
  · rintro pre x post δ k e ⟨o, rfl⟩ hk'
    have hx : x < ds.length := List.mem_range.mp (by rw [e]; simp)
    have ha := atI_nat hx
    repeat' (first | infer_instance | (with_reducible refine w_seq ?_) | (with_reducible refine hi _ _ ha _ ?_) | (with_reducible refine IH _ (hk _ (List.getElem_mem hx)) ?_) | fail)
    all_goals exact hk' _ ⟨_, rfl⟩
theorem same_refl : ∀ (n : Nat) (d : D), okS n d → ∀ {P : D → Prop} {P2 : Exn → Prop}, P (.bl true) → w__law_same n [d, d] P P2
  | 0, _, h, _, _, _ => h.elim
  | n + 1, d, h, P, P2, q => by
    unfold w__law_same wpB b__law_same
    cases d with
    | non =>
      repeat' (first | infer_instance | (with_reducible refine w_seq ?_) | fail)
      all_goals exact q
    | bl b =>
      repeat' (first | infer_instance | (with_reducible refine w_seq ?_) | fail)
      all_goals (show P (.bl (decide (b = b))); rw [decide_eq_true rfl]; exact q)
    | int i =>
      repeat' (first | infer_instance | (with_reducible refine w_seq ?_) | fail)
      all_goals (show P (.bl (decide (i = i))); rw [decide_eq_true rfl]; exact q)
    | str s =>
      have hs : PyData.strOk s = true := h
      repeat' (first | infer_instance | (with_reducible refine w_seq ?_) | (with_reducible refine o_eqS hs hs ?_) | fail)
      all_goals (show P (.bl (decide (s = s))); rw [decide_eq_true rfl]; exact q)
    | lst ds =>
      repeat' (first | infer_instance | (with_reducible refine w_seq ?_) | fail)
      all_goals first
        | exact absurd rfl c
        | (unfold b62; have : szl = 16777216 := rfl; have := h.1; omega)
        | exact same_loop (fun d hd => same_refl n d hd) rfl (fun i x e K k => o_ixL e k) h.2 q _
    | tup ds =>
      repeat' (first | infer_instance | (with_reducible refine w_seq ?_) | fail)
      all_goals first
        | exact absurd rfl c
        | (unfold b62; have : szl = 16777216 := rfl; have := h.1; omega)
        | exact same_loop (fun d hd => same_refl n d hd) rfl (fun i x e K k => o_ixT e k) h.2 q _
    | vw ds =>
      repeat' (first | infer_instance | (with_reducible refine w_seq ?_) | fail)
      all_goals first
        | exact absurd rfl c
        | (unfold b62; have : szl = 16777216 := rfl; have := h.1; omega)
        | exact same_loop (fun d hd => same_refl n d hd) rfl (fun i x e K k => o_ixW e k) h.2 q _
    | obj _ _ => exact h.elim
    | pool => exact h.elim
    | cls _ => exact h.elim
    | script _ => exact h.elim
    | pin _ _ => exact h.elim
theorem tr_same {a b : D} {P : D → Prop} {P2 : Exn → Prop} (c : sameT a b) (h : P (.bl true)) : w__law_same 6 [a, b] P P2 := by
  obtain ⟨h1, h2⟩ := c
  subst h2
  exact same_refl 6 a h1 h
theorem viewL_map (ds : List D) : viewL ds = ds.map viewD := by
  induction ds with
  | nil => rfl
  | cons d ds ih => unfold viewL; rw [ih]; rfl
theorem sameW_loop {n : Nat} {ds : List D} {d d' : D} {P : D → Prop} {P2 : Exn → Prop} (IH : ∀ d, okS n d → ∀ {P : D → Prop} {P2 : Exn → Prop}, P (.bl true) → w__law_same n [viewD d, d] P P2) (hi : ∀ i : Int, ∀ x, atI ds i = some x → ∀ K : D → Prop, K x → fIx d (.int i) K) (hi2 : ∀ i : Int, ∀ x, atI (viewL ds) i = some x → ∀ K : D → Prop, K x → fIx d' (.int i) K)
    (hk : ∀ x ∈ ds, okS n x) (q : P (.bl true)) (o2 : Option S) :
    pForL (pgName 2) (pIf (pNotT (pTru (pCall (w__law_same n) (pCons (pOp fIx (pVar 0) (pVar 2)) (pCons (pOp fIx (pVar 1) (pVar 2)) pNil))))) (pRet (pC (.bl false))) pNext) { nx := pRet (pC (.bl true)) { nx := fun _ => P .non, rt := fun _ => P, bk := fun _ => False, ct := fun _ => False, ex := fun _ => P2 }, rt := fun _ => P, bk := fun _ => False, ct := fun _ => False, ex := fun _ => P2 } (rangeD 0 ds.length) [some (.d d'), some (.d d), o2] := by
  refine w_forP (fun (i : Nat) => D.int (0 + i)) (List.range ds.length) (fun _ δ => ∃ o, δ = [some (.d d'), some (.d d), o]) (rangeD_map _ _) ?_ ?_ ⟨_, rfl⟩
  · rintro δ ⟨o, rfl⟩
    exact q
  · rintro pre x post δ k e ⟨o, rfl⟩ hk'
    have hx : x < ds.length := List.mem_range.mp (by rw [e]; simp)
    have ha := atI_nat hx
    have hb : atI (viewL ds) (0 + (x : Int)) = some (viewD ds[x]) := by
      have := atI_nat (ds := viewL ds) (i := x) (by rw [viewL_length]; exact hx)
      rw [this]
      simp only [viewL_map, List.getElem_map]
    repeat' (first | infer_instance | (with_reducible refine w_seq ?_) | (with_reducible refine hi2 _ _ hb _ ?_) | (with_reducible refine hi _ _ ha _ ?_) | (with_reducible refine IH _ (hk _ (List.getElem_mem hx)) ?_) | fail)
    all_goals exact hk' _ ⟨_, rfl⟩
theorem same_vw : ∀ (n : Nat) (d : D), okS n d → ∀ {P : D → Prop} {P2 : Exn → Prop}, P (.bl true) → w__law_same n [viewD d, d] P P2
  | 0, _, h, _, _, _ => h.elim
  | n + 1, d, h, P, P2, q => by
    cases d with
    | lst ds =>
      unfold w__law_same wpB b__law_same viewD
      repeat' (first | infer_instance | (with_reducible refine w_seq ?_) | fail)
      all_goals first
        | (refine absurd ?_ c; rw [viewL_length]; done)
        | (unfold b62; have : szl = 16777216 := rfl; have := h.1; omega)
        | exact sameW_loop (fun d hd => same_vw n d hd) (fun i x e K k => o_ixL e k) (fun i x e K k => o_ixW e k) h.2 q _
        | skip
    | tup ds =>
      unfold w__law_same wpB b__law_same viewD
      repeat' (first | infer_instance | (with_reducible refine w_seq ?_) | fail)
      all_goals first
        | (refine absurd ?_ c; rw [viewL_length]; done)
        | (unfold b62; have : szl = 16777216 := rfl; have := h.1; omega)
        | exact sameW_loop (fun d hd => same_vw n d hd) (fun i x e K k => o_ixT e k) (fun i x e K k => o_ixT e k) h.2 q _
        | skip
    | vw ds =>
      unfold w__law_same wpB b__law_same viewD
      repeat' (first | infer_instance | (with_reducible refine w_seq ?_) | fail)
      all_goals first
        | (refine absurd ?_ c; rw [viewL_length]; done)
        | (unfold b62; have : szl = 16777216 := rfl; have := h.1; omega)
        | exact sameW_loop (fun d hd => same_vw n d hd) (fun i x e K k => o_ixW e k) (fun i x e K k => o_ixW e k) h.2 q _
        | skip
    | non => exact same_refl (n + 1) .non h q
    | bl b => exact same_refl (n + 1) (.bl b) h q
    | int i => exact same_refl (n + 1) (.int i) h q
    | str s => exact same_refl (n + 1) (.str s) h q
    | obj _ _ => exact h.elim
    | pool => exact h.elim
    | cls _ => exact h.elim
    | script _ => exact h.elim
    | pin _ _ => exact h.elim
noncomputable def sameW (a b : D) : Prop := okS 6 b ∧ a = viewD b
theorem tr_sameW {a b : D} {P : D → Prop} {P2 : Exn → Prop} (c : sameW a b) (h : P (.bl true)) : w__law_same 6 [a, b] P P2 := by
  obtain ⟨h1, h2⟩ := c
  subst h2
  exact same_vw 6 b h1 h

theorem w_lc_4 {x0 x1 x2 x3 x4 : Option S} {l : Dl} {pi : PLx} {pg : PG'} {pt : PTx} {pe : PX} {Q : D → Prop} {Q2 : Exn → Prop} (h : pi (x0 :: x1 :: x2 :: x3 :: x4 :: l) (fun ds => pLcL pg pt pe (x0 :: x1 :: x2 :: x3 :: none :: l) Q ds []) Q2) : pLc pi pg pt pe [4] (x0 :: x1 :: x2 :: x3 :: x4 :: l) Q Q2 := w_lc h
theorem w_lc_6 {x0 x1 x2 x3 x4 x5 x6 : Option S} {l : Dl} {pi : PLx} {pg : PG'} {pt : PTx} {pe : PX} {Q : D → Prop} {Q2 : Exn → Prop} (h : pi (x0 :: x1 :: x2 :: x3 :: x4 :: x5 :: x6 :: l) (fun ds => pLcL pg pt pe (x0 :: x1 :: x2 :: x3 :: x4 :: x5 :: none :: l) Q ds []) Q2) : pLc pi pg pt pe [6] (x0 :: x1 :: x2 :: x3 :: x4 :: x5 :: x6 :: l) Q Q2 := w_lc h
theorem w_amp7_4 {x0 x1 x2 x3 x5 x6 : Option S} {l : Dl} {oa ob : Option Addr} {ds es : List D} {P : PEnds} {pe : PX} (h : pe (x0 :: x1 :: x2 :: x3 :: some (.own ob es) :: x5 :: x6 :: some (.own oa ds) :: l) (popMK es fun x es1 => appK ds (fun ds1 => P.nx (x0 :: x1 :: x2 :: x3 :: some (.own ob es1) :: x5 :: x6 :: some (.own oa ds1) :: l)) x) (P.ex (x0 :: x1 :: x2 :: x3 :: some (.own ob es) :: x5 :: x6 :: some (.own oa ds) :: l))) : pAppM 7 (pmPop 4 pe) P (x0 :: x1 :: x2 :: x3 :: some (.own ob es) :: x5 :: x6 :: some (.own oa ds) :: l) := h
theorem w_lc_8 {x0 x1 x2 x3 x4 x5 x6 x7 x8 : Option S} {l : Dl} {pi : PLx} {pg : PG'} {pt : PTx} {pe : PX} {Q : D → Prop} {Q2 : Exn → Prop} (h : pi (x0 :: x1 :: x2 :: x3 :: x4 :: x5 :: x6 :: x7 :: x8 :: l) (fun ds => pLcL pg pt pe (x0 :: x1 :: x2 :: x3 :: x4 :: x5 :: x6 :: x7 :: none :: l) Q ds []) Q2) : pLc pi pg pt pe [8] (x0 :: x1 :: x2 :: x3 :: x4 :: x5 :: x6 :: x7 :: x8 :: l) Q Q2 := w_lc h
theorem w_lc_10 {x0 x1 x2 x3 x4 x5 x6 x7 x8 x9 x10 : Option S} {l : Dl} {pi : PLx} {pg : PG'} {pt : PTx} {pe : PX} {Q : D → Prop} {Q2 : Exn → Prop} (h : pi (x0 :: x1 :: x2 :: x3 :: x4 :: x5 :: x6 :: x7 :: x8 :: x9 :: x10 :: l) (fun ds => pLcL pg pt pe (x0 :: x1 :: x2 :: x3 :: x4 :: x5 :: x6 :: x7 :: x8 :: x9 :: none :: l) Q ds []) Q2) : pLc pi pg pt pe [10] (x0 :: x1 :: x2 :: x3 :: x4 :: x5 :: x6 :: x7 :: x8 :: x9 :: x10 :: l) Q Q2 := w_lc h
theorem y_fd0_2_02 {x0 x1 x2 : D} {l : List D} {Q : D → Prop} (h : Q x2) : fldK [(0, 2)] Q (.obj 0 (x0 :: x1 :: x2 :: l)) := h
theorem y_fd0_0_00 {x0 : D} {l : List D} {Q : D → Prop} (h : Q x0) : fldK [(0, 0)] Q (.obj 0 (x0 :: l)) := h
theorem w_lc_1 {x0 x1 : Option S} {l : Dl} {pi : PLx} {pg : PG'} {pt : PTx} {pe : PX} {Q : D → Prop} {Q2 : Exn → Prop} (h : pi (x0 :: x1 :: l) (fun ds => pLcL pg pt pe (x0 :: none :: l) Q ds []) Q2) : pLc pi pg pt pe [1] (x0 :: x1 :: l) Q Q2 := w_lc h
theorem y_fd0_1_01 {x0 x1 : D} {l : List D} {Q : D → Prop} (h : Q x1) : fldK [(0, 1)] Q (.obj 0 (x0 :: x1 :: l)) := h
theorem w_lc_3_4 {x0 x1 x2 x3 x4 : Option S} {l : Dl} {pi : PLx} {pg : PG'} {pt : PTx} {pe : PX} {Q : D → Prop} {Q2 : Exn → Prop} (h : pi (x0 :: x1 :: x2 :: x3 :: x4 :: l) (fun ds => pLcL pg pt pe (x0 :: x1 :: x2 :: none :: none :: l) Q ds []) Q2) : pLc pi pg pt pe [3, 4] (x0 :: x1 :: x2 :: x3 :: x4 :: l) Q Q2 := w_lc h
theorem w_lc_2_3 {x0 x1 x2 x3 : Option S} {l : Dl} {pi : PLx} {pg : PG'} {pt : PTx} {pe : PX} {Q : D → Prop} {Q2 : Exn → Prop} (h : pi (x0 :: x1 :: x2 :: x3 :: l) (fun ds => pLcL pg pt pe (x0 :: x1 :: none :: none :: l) Q ds []) Q2) : pLc pi pg pt pe [2, 3] (x0 :: x1 :: x2 :: x3 :: l) Q Q2 := w_lc h
theorem w_lc_3 {x0 x1 x2 x3 : Option S} {l : Dl} {pi : PLx} {pg : PG'} {pt : PTx} {pe : PX} {Q : D → Prop} {Q2 : Exn → Prop} (h : pi (x0 :: x1 :: x2 :: x3 :: l) (fun ds => pLcL pg pt pe (x0 :: x1 :: x2 :: none :: l) Q ds []) Q2) : pLc pi pg pt pe [3] (x0 :: x1 :: x2 :: x3 :: l) Q Q2 := w_lc h
theorem w_lc_5 {x0 x1 x2 x3 x4 x5 : Option S} {l : Dl} {pi : PLx} {pg : PG'} {pt : PTx} {pe : PX} {Q : D → Prop} {Q2 : Exn → Prop} (h : pi (x0 :: x1 :: x2 :: x3 :: x4 :: x5 :: l) (fun ds => pLcL pg pt pe (x0 :: x1 :: x2 :: x3 :: x4 :: none :: l) Q ds []) Q2) : pLc pi pg pt pe [5] (x0 :: x1 :: x2 :: x3 :: x4 :: x5 :: l) Q Q2 := w_lc h
theorem w_lc_7_8 {x0 x1 x2 x3 x4 x5 x6 x7 x8 : Option S} {l : Dl} {pi : PLx} {pg : PG'} {pt : PTx} {pe : PX} {Q : D → Prop} {Q2 : Exn → Prop} (h : pi (x0 :: x1 :: x2 :: x3 :: x4 :: x5 :: x6 :: x7 :: x8 :: l) (fun ds => pLcL pg pt pe (x0 :: x1 :: x2 :: x3 :: x4 :: x5 :: x6 :: none :: none :: l) Q ds []) Q2) : pLc pi pg pt pe [7, 8] (x0 :: x1 :: x2 :: x3 :: x4 :: x5 :: x6 :: x7 :: x8 :: l) Q Q2 := w_lc h
theorem w_lc_5_6 {x0 x1 x2 x3 x4 x5 x6 : Option S} {l : Dl} {pi : PLx} {pg : PG'} {pt : PTx} {pe : PX} {Q : D → Prop} {Q2 : Exn → Prop} (h : pi (x0 :: x1 :: x2 :: x3 :: x4 :: x5 :: x6 :: l) (fun ds => pLcL pg pt pe (x0 :: x1 :: x2 :: x3 :: x4 :: none :: none :: l) Q ds []) Q2) : pLc pi pg pt pe [5, 6] (x0 :: x1 :: x2 :: x3 :: x4 :: x5 :: x6 :: l) Q Q2 := w_lc h
theorem y_lntup4 {d0 d1 d2 d3 : D} {Q : D → Prop} (h : Q (.int 4)) : fLen [.tup [d0, d1, d2, d3]] Q := h
theorem y_lntup2 {d0 d1 : D} {Q : D → Prop} (h : Q (.int 2)) : fLen [.tup [d0, d1]] Q := h
noncomputable def t__law_depot (drivers : Int) (period : Int) (Q : (Int × Int × (List Int)) → Prop) (X : Exn → Prop) : Prop :=
  takeOk period ∧ takeT period (fun (r1 : Int) => bnd (1 + r1) (fun (m : Int) => takeOk drivers ∧ takeT drivers (fun (r2 : Int) => bnd (1 + r2) (fun (n : Int) => takeOk n ∧ takeT n (fun (r3 : Int) => bnd (1 + r3) (fun (q : Int) => jn (fun (k : Int → Prop) => takeT 3 (fun (r6 : Int) => ifP (0 < r6) (takeOk (mn n 2) ∧ takeT (mn n 2) (fun (r7 : Int) => bnd (1 + r7) (fun (q3 : Int) => k q3))) (k q))) (fun (q2 : Int) => (-(2 ^ 63) ≤ q2 ∧ q2 ≤ 16777216) ∧ bnd (List.replicate q2.toNat 1) (fun (firsts : (List Int)) => b62 (n - q2) ∧ forK (rg 0 (n - q2)) (fun (k_ : Int) (k : (List Int) → Prop) (firsts2 : (List Int)) => takeOk ((firsts2.length : Int) + 1) ∧ takeT ((firsts2.length : Int) + 1) (fun (r4 : Int) => takeOk m ∧ takeT m (fun (r5 : Int) => (firsts2.length < szl ∧ 0 ≤ r4 ∧ r4 < 2 ^ 63) ∧ k (ins firsts2 r4 (1 + r5))))) (fun (firsts2 : (List Int)) => Q (m, q2, firsts2)) firsts))))))))

theorem tr__law_depot {drivers : Int} {period : Int}  {Qt : (Int × Int × (List Int)) → Prop} {Xt : Exn → Prop} {P : D → Prop} {P2 : Exn → Prop}  (h : t__law_depot drivers period Qt Xt) (hq : ∀ r, Qt r → P ((eR3 D.int D.int (eL D.int)) r)) (hx : ∀ e, Xt e → P2 e) : w__law_depot [D.pool, (D.int drivers), (D.int period)] P P2 := by
  unfold t__law_depot at h
  unfold w__law_depot wpB
  show b__law_depot _ [some (.d D.pool), some (.d (D.int drivers)), some (.d (D.int period)), none, none, none, none, none]
  unfold b__law_depot
  with_reducible refine w_seq (w_as3 (e_op (e_c (e_call (a_cons (e_v0 (a_cons (e_v2 (a_nil ?_)))))))))
  obtain ⟨s1, h⟩ := h
  refine tr_take s1 h ?_; clear h; intro r1 h
  with_reducible refine o_add ?_
  refine gen_d3 D.int h ?_; clear h; intro m h
  with_reducible refine w_seq (w_as4 (e_op (e_c (e_call (a_cons (e_v0 (a_cons (e_v1 (a_nil ?_)))))))))
  obtain ⟨s2, h⟩ := h
  refine tr_take s2 h ?_; clear h; intro r2 h
  with_reducible refine o_add ?_
  refine gen_d4 D.int h ?_; clear h; intro n h
  with_reducible refine w_seq (w_as5 (e_op (e_c (e_call (a_cons (e_v0 (a_cons (e_v4 (a_nil ?_)))))))))
  obtain ⟨s3, h⟩ := h
  refine tr_take s3 h ?_; clear h; intro r3 h
  with_reducible refine o_add ?_
  refine gen_d5 D.int h ?_; clear h; intro q h
  with_reducible refine w_seqJ (fun (k : Int → Prop) N => ∀ (q2 : Int), k q2 → N [some (.d D.pool), some (.d (D.int drivers)), some (.d (D.int period)), some (.d (D.int m)), some (.d (D.int n)), some (.d (D.int q2)), none, none]) h ?_ ?_ <;> clear h
  · intro q2 h
    try dsimp only at h
    with_reducible refine w_seq (w_ao6 ?_)
    obtain ⟨s4, h⟩ := h
    with_reducible refine e_op (e_lstK (a_cons (e_c (a_nil (y_mk1 (f := D.int) (a0 := 1) (e_v5 (y_rep (f := D.int) (x := 1) s4 (k_ao ?_))))))))
    refine gen_o6 D.int h ?_; clear h; intro firsts h
    with_reducible refine w_seq (w_for ?_)
    obtain ⟨s5, h⟩ := h
    with_reducible refine y_rg1 (fun _ hQ => e_op (e_v4 (e_v5 (o_sub hQ)))) s5 ?_
    refine w_forK D.int (fun (k : (List Int) → Prop) N => ∀ (firsts2 : (List Int)) (o1 : Option S), k firsts2 → N [some (.d D.pool), some (.d (D.int drivers)), some (.d (D.int period)), some (.d (D.int m)), some (.d (D.int n)), some (.d (D.int q2)), some (.own none (List.map D.int firsts2)), o1]) ?_ ?_ firsts _ h <;> clear h
    · intro firsts2 o1 h
      try dsimp only at h
      with_reducible refine w_fz6 (w_ret (e_lstK (a_cons (e_v3 (a_cons (e_v5 (a_cons (e_v6 (a_nil (k_lst ln3 ?_))))))))))
      exact hq (m, q2, firsts2) h
    · intro k_ k N hn firsts2 o1 h
      try dsimp only at h
      with_reducible refine g_n7 (w_in6 (e_call (a_cons (e_v0 (a_cons (e_op (e_cb (a_cons (e_vo6 (a_nil (y_lenL  (e_c (o_add (a_nil ?_))))))))))))))
      obtain ⟨s6, h⟩ := h
      refine tr_take s6 h ?_; clear h; intro r4 h
      with_reducible refine e_op (e_c (e_call (a_cons (e_v0 (a_cons (e_v3 (a_nil ?_)))))))
      obtain ⟨s7, h⟩ := h
      refine tr_take s7 h ?_; clear h; intro r5 h
      with_reducible refine o_add ?_
      obtain ⟨s8, h⟩ := h
      with_reducible refine y_ins (f := D.int) (xs := firsts2) (y := (1 + r5)) s8 ?_
      exact hn (ins firsts2 r4 (1 + r5)) _ h
  · intro k N hn h
    try dsimp only at h
    with_reducible refine w_if (t_tst (e_op (e_call (a_cons (e_v0 (a_cons (e_c (a_nil ?_))))))))
    have s9 : takeOk 3 := ⟨by decide, by decide⟩
    refine tr_take s9 h ?_; clear h; intro r6 h
    with_reducible refine e_c (o_gt ?_)
    refine w_ifB (p := 0 < r6) dec_iff (fun c => ?_) (fun c => ?_)
    · replace h := h.1 c
      with_reducible refine w_as5 (e_op (e_c (e_call (a_cons (e_v0 (a_cons (e_cb (a_cons (e_v4 (a_cons (e_c (a_nil (y_min (a_nil ?_))))))))))))))
      obtain ⟨s10, h⟩ := h
      refine tr_take s10 h ?_; clear h; intro r7 h
      with_reducible refine o_add ?_
      refine gen_d5 D.int h ?_; clear h; intro q3 h
      exact hn q3 h
    · replace h := h.2 c
      with_reducible refine w_next ?_
      exact hn q h

noncomputable def t__law_steep (period : Int) (Q : (Int × Int × (List Int)) → Prop) (X : Exn → Prop) : Prop :=
  takeOk (period - 1) ∧ takeT (period - 1) (fun (r1 : Int) => bnd (2 + r1) (fun (m : Int) => takeT 2 (fun (r2 : Int) => bnd (1 + r2) (fun (q : Int) => (-(2 ^ 63) ≤ q ∧ q ≤ 16777216) ∧ bnd (List.replicate q.toNat 1) (fun (firsts : (List Int)) => takeT 3 (fun (r3 : Int) => b62 ((q + 1) + r3) ∧ forK (rg 0 ((q + 1) + r3)) (fun (k_ : Int) (k : (List Int) → Prop) (firsts2 : (List Int)) => takeOk ((firsts2.length : Int) + 1) ∧ takeT ((firsts2.length : Int) + 1) (fun (r4 : Int) => takeOk (m - 1) ∧ takeT (m - 1) (fun (r5 : Int) => (firsts2.length < szl ∧ 0 ≤ r4 ∧ r4 < 2 ^ 63) ∧ k (ins firsts2 r4 (2 + r5))))) (fun (firsts2 : (List Int)) => Q (m, q, firsts2)) firsts))))))

theorem tr__law_steep {period : Int}  {Qt : (Int × Int × (List Int)) → Prop} {Xt : Exn → Prop} {P : D → Prop} {P2 : Exn → Prop}  (h : t__law_steep period Qt Xt) (hq : ∀ r, Qt r → P ((eR3 D.int D.int (eL D.int)) r)) (hx : ∀ e, Xt e → P2 e) : w__law_steep [D.pool, (D.int period)] P P2 := by
  unfold t__law_steep at h
  unfold w__law_steep wpB
  show b__law_steep _ [some (.d D.pool), some (.d (D.int period)), none, none, none, none]
  unfold b__law_steep
  with_reducible refine w_seq (w_as2 (e_op (e_c (e_call (a_cons (e_v0 (a_cons (e_op (e_v1 (e_c (o_sub (a_nil ?_))))))))))))
  obtain ⟨s1, h⟩ := h
  refine tr_take s1 h ?_; clear h; intro r1 h
  with_reducible refine o_add ?_
  refine gen_d2 D.int h ?_; clear h; intro m h
  with_reducible refine w_seq (w_as3 (e_op (e_c (e_call (a_cons (e_v0 (a_cons (e_c (a_nil ?_)))))))))
  have s2 : takeOk 2 := ⟨by decide, by decide⟩
  refine tr_take s2 h ?_; clear h; intro r2 h
  with_reducible refine o_add ?_
  refine gen_d3 D.int h ?_; clear h; intro q h
  with_reducible refine w_seq (w_ao4 ?_)
  obtain ⟨s3, h⟩ := h
  with_reducible refine e_op (e_lstK (a_cons (e_c (a_nil (y_mk1 (f := D.int) (a0 := 1) (e_v3 (y_rep (f := D.int) (x := 1) s3 (k_ao ?_))))))))
  refine gen_o4 D.int h ?_; clear h; intro firsts h
  with_reducible refine w_seq (w_for (l_rg1K (e_op (e_op (e_v3 (e_c (o_add (e_call (a_cons (e_v0 (a_cons (e_c (a_nil ?_)))))))))))))
  have s4 : takeOk 3 := ⟨by decide, by decide⟩
  refine tr_take s4 h ?_; clear h; intro r3 h
  with_reducible refine o_add ?_
  obtain ⟨s5, h⟩ := h
  with_reducible refine k_rg1 s5 ?_
  refine w_forK D.int (fun (k : (List Int) → Prop) N => ∀ (firsts2 : (List Int)) (o1 : Option S), k firsts2 → N [some (.d D.pool), some (.d (D.int period)), some (.d (D.int m)), some (.d (D.int q)), some (.own none (List.map D.int firsts2)), o1]) ?_ ?_ firsts _ h <;> clear h
  · intro firsts2 o1 h
    try dsimp only at h
    with_reducible refine w_fz4 (w_ret (e_lstK (a_cons (e_v2 (a_cons (e_v3 (a_cons (e_v4 (a_nil (k_lst ln3 ?_))))))))))
    exact hq (m, q, firsts2) h
  · intro k_ k N hn firsts2 o1 h
    try dsimp only at h
    with_reducible refine g_n5 (w_in4 (e_call (a_cons (e_v0 (a_cons (e_op (e_cb (a_cons (e_vo4 (a_nil (y_lenL  (e_c (o_add (a_nil ?_))))))))))))))
    obtain ⟨s6, h⟩ := h
    refine tr_take s6 h ?_; clear h; intro r4 h
    with_reducible refine e_op (e_c (e_call (a_cons (e_v0 (a_cons (e_op (e_v2 (e_c (o_sub (a_nil ?_))))))))))
    obtain ⟨s7, h⟩ := h
    refine tr_take s7 h ?_; clear h; intro r5 h
    with_reducible refine o_add ?_
    obtain ⟨s8, h⟩ := h
    with_reducible refine y_ins (f := D.int) (xs := firsts2) (y := (2 + r5)) s8 ?_
    exact hn (ins firsts2 r4 (2 + r5)) _ h

noncomputable def t__law_great (most : Int) (Q : Int → Prop) (X : Exn → Prop) : Prop :=
  takeT 4 (fun (way : Int) => ifP (way < 2) (takeT 40 (fun (r1 : Int) => Q (mn most r1))) (ifP (way = 2) (takeT 4000 (fun (r2 : Int) => Q (mn most r2))) ((∀ z : Int, 0 ≤ z → ifP (most < z) (takeOk (most + 1) ∧ takeT (most + 1) (fun (r3 : Int) => Q r3)) (forK (rg 0 4) (fun (k_ : Int) (k : Int → Prop) (got : Int) => takeT 100000000 (fun (r4 : Int) => bnd ((got * 100000000) + r4) (fun (got2 : Int) => k got2))) (fun (got : Int) => 0 < (most + 1) ∧ Q (got % (most + 1))) 0)))))

theorem tr__law_great {most : Int}  {Qt : Int → Prop} {Xt : Exn → Prop} {P : D → Prop} {P2 : Exn → Prop}  (h : t__law_great most Qt Xt) (hq : ∀ r, Qt r → P (D.int r)) (hx : ∀ e, Xt e → P2 e) : w__law_great [D.pool, (D.int most)] P P2 := by
  unfold t__law_great at h
  unfold w__law_great wpB
  show b__law_great _ [some (.d D.pool), some (.d (D.int most)), none, none, none]
  unfold b__law_great
  with_reducible refine w_seq (w_as2 (e_call (a_cons (e_v0 (a_cons (e_c (a_nil ?_)))))))
  have s1 : takeOk 4 := ⟨by decide, by decide⟩
  refine tr_take s1 h ?_; clear h; intro way h
  with_reducible refine w_seq ?_
  with_reducible refine w_ifT (p := way < 2) (tt_cmp (p := way < 2) (fun _ hQ => e_op (e_v2 (e_c (o_lt hQ))))) (fun c => ?_) (fun c => ?_)
  · replace h := h.1 c
    with_reducible refine w_ret (e_cb (a_cons (e_v1 (a_cons (e_call (a_cons (e_v0 (a_cons (e_c (a_nil ?_))))))))))
    have s2 : takeOk 40 := ⟨by decide, by decide⟩
    refine tr_take s2 h ?_; clear h; intro r1 h
    with_reducible refine a_nil (y_min ?_)
    exact hq (mn most r1) h
  · replace h := h.2 c
    with_reducible refine w_next (w_seq ?_)
    with_reducible refine w_ifT (p := way = 2) (tt_cmp (p := way = 2) (fun _ hQ => e_op (e_v2 (e_c (o_eq hQ))))) (fun c => ?_) (fun c => ?_)
    · replace h := h.1 c
      with_reducible refine w_ret (e_cb (a_cons (e_v1 (a_cons (e_call (a_cons (e_v0 (a_cons (e_c (a_nil ?_))))))))))
      have s3 : takeOk 4000 := ⟨by decide, by decide⟩
      refine tr_take s3 h ?_; clear h; intro r2 h
      with_reducible refine a_nil (y_min ?_)
      exact hq (mn most r2) h
    · replace h := h.2 c
      with_reducible refine w_next (w_seq (w_if (t_tst (e_op (e_op (e_v0 (e_c ?_)))))))
      refine o_ixPool (fun z hz => ?_)
      replace h := h z hz
      with_reducible refine e_v1 (o_gt ?_)
      refine w_ifB (p := most < z) dec_iff (fun c => ?_) (fun c => ?_)
      · replace h := h.1 c
        with_reducible refine w_ret (e_call (a_cons (e_v0 (a_cons (e_op (e_v1 (e_c (o_add (a_nil ?_)))))))))
        obtain ⟨s4, h⟩ := h
        refine tr_take s4 h ?_; clear h; intro r3 h
        exact hq r3 h
      · replace h := h.2 c
        with_reducible refine w_next (w_seq (w_as3 (e_c (w_seq (w_for ?_)))))
        have s5 : b62 4 := ⟨by decide, by decide⟩
        with_reducible refine y_rg1 (fun _ hQ => e_c hQ) s5 ?_
        refine w_forK D.int (fun (k : Int → Prop) N => ∀ (got : Int) (o1 : Option S), k got → N [some (.d D.pool), some (.d (D.int most)), some (.d (D.int way)), some (.d (D.int got)), o1]) ?_ ?_ 0 _ h <;> clear h
        · intro got o1 h
          try dsimp only at h
          with_reducible refine w_ret ?_
          obtain ⟨s6, h⟩ := h
          with_reducible refine e_op (e_cb (a_cons (e_v3 (a_nil (o_int (e_op (e_v1 (e_c (o_add (y_mod s6 ?_))))))))))
          exact hq (got % (most + 1)) h
        · intro k_ k N hn got o1 h
          try dsimp only at h
          with_reducible refine g_n4 (w_as3 (e_op ?_))
          have s8 : mulT got 100000000 := Or.inr ⟨by decide, by decide⟩
          with_reducible refine e_op (e_v3 (e_op (e_c (e_c (o_pow8 (y_mul s8 (e_call (a_cons (e_v0 (a_cons (e_op (e_c (e_c (o_pow8 (a_nil ?_)))))))))))))))
          have s9 : takeOk 100000000 := ⟨by decide, by decide⟩
          refine tr_take s9 h ?_; clear h; intro r4 h
          with_reducible refine o_add ?_
          refine gen_d3 D.int h ?_; clear h; intro got2 h
          exact hn got2 _ h

noncomputable def t__law_spots (plan : (Int × Int × (List Int))) (Q : (List Int) → Prop) (X : Exn → Prop) : Prop :=
  (-(2 ^ 63) ≤ (plan.1 + 1) ∧ (plan.1 + 1) ≤ 16777216) ∧ bnd (List.replicate (plan.1 + 1).toNat 0) (fun (row : (List Int)) => forK plan.2.2 (fun (first : Int) (k : (List Int) → Prop) (row2 : (List Int)) => ixOk row2 first ∧ ixOk row2 first ∧ k (st row2 first ((gi row2 first) + 1))) (fun (row2 : (List Int)) => ixOk row2 1 ∧ ixOk row2 1 ∧ Q (st row2 1 ((gi row2 1) - plan.2.1))) row)

theorem tr__law_spots {plan : (Int × Int × (List Int))}  {Qt : (List Int) → Prop} {Xt : Exn → Prop} {P : D → Prop} {P2 : Exn → Prop}  (h : t__law_spots plan Qt Xt) (hq : ∀ r, Qt r → P ((eL D.int) r)) (hx : ∀ e, Xt e → P2 e) : w__law_spots [((eW3 D.int D.int (eV D.int)) plan)] P P2 := by
  unfold t__law_spots at h
  unfold w__law_spots wpB
  show b__law_spots _ [some (.d ((eW3 D.int D.int (eV D.int)) plan)), none, none]
  unfold b__law_spots
  with_reducible refine w_seq (w_ao1 ?_)
  obtain ⟨s1, h⟩ := h
  with_reducible refine e_op (e_lstK (a_cons (e_c (a_nil (y_mk1 (f := D.int) (a0 := 0) (e_op (e_op (e_v0 (e_c (y_w0 (e_c (o_add (y_rep (f := D.int) (x := 0) s1 (k_ao ?_))))))))))))))
  refine gen_o1 D.int h ?_; clear h; intro row h
  with_reducible refine w_seq (w_for (y_it (fun _ hQ => e_op (e_v0 (e_c (y_w2 hQ)))) (f := D.int) (xs := plan.2.2) hdV ?_))
  refine w_forK D.int (fun (k : (List Int) → Prop) N => ∀ (row2 : (List Int)) (o1 : Option S), k row2 → N [some (.d ((eW3 D.int D.int (eV D.int)) plan)), some (.own none (List.map D.int row2)), o1]) ?_ ?_ row _ h <;> clear h
  · intro row2 o1 h
    try dsimp only at h
    with_reducible refine w_seq (w_si1 ?_)
    obtain ⟨s2, h⟩ := h
    with_reducible refine e_op (e_op (e_vo1 (e_c (y_ixL s2 (e_op (e_v0 (e_c (y_w1 (o_sub (e_c ?_))))))))))
    obtain ⟨s3, h⟩ := h
    with_reducible refine y_set (f := D.int) (xs := row2) (y := ((gi row2 1) - plan.2.1)) s3 (w_fz1 (w_ret (e_v1 ?_)))
    exact hq (st row2 1 ((gi row2 1) - plan.2.1)) h
  · intro first k N hn row2 o1 h
    try dsimp only at h
    with_reducible refine g_n2 (w_si1 ?_)
    obtain ⟨s4, h⟩ := h
    with_reducible refine e_op (e_op (e_vo1 (e_v2 (y_ixL s4 (e_c (o_add (e_v2 ?_)))))))
    obtain ⟨s5, h⟩ := h
    with_reducible refine y_set (f := D.int) (xs := row2) (y := ((gi row2 first) + 1)) s5 ?_
    exact hn (st row2 first ((gi row2 first) + 1)) _ h

noncomputable def t__law_due_spots (plan : (Int × Int × (List Int))) (span : Int) (Q : (List Int) → Prop) (X : Exn → Prop) : Prop :=
  t__law_spots plan (fun (row : (List Int)) => 0 < plan.1 ∧ bnd ((span % plan.1) + 1) (fun (z : Int) => ixOk row z ∧ ixOk row z ∧ Q (st row z ((gi row z) + plan.2.1)))) (fun e => noVL e.ds = true ∧ X e)

theorem tr__law_due_spots {plan : (Int × Int × (List Int))} {span : Int}  {Qt : (List Int) → Prop} {Xt : Exn → Prop} {P : D → Prop} {P2 : Exn → Prop}  (h : t__law_due_spots plan span Qt Xt) (hq : ∀ r, Qt r → P ((eL D.int) r)) (hx : ∀ e, Xt e → P2 e) : w__law_due_spots [((eW3 D.int D.int (eV D.int)) plan), (D.int span)] P P2 := by
  unfold t__law_due_spots at h
  unfold w__law_due_spots wpB
  show b__law_due_spots _ [some (.d ((eW3 D.int D.int (eV D.int)) plan)), some (.d (D.int span)), none, none]
  unfold b__law_due_spots
  with_reducible refine w_seq (w_asV (vd_d (d' := ((eW3 D.int D.int (eV D.int)) plan)) (vq (f := (eW3 D.int D.int (eV D.int))) plan) (vd_f (vd_f (vd_f vd_e)))) (e_call (a_cons (e_v0 (a_nil ?_)))))
  refine tr__law_spots (plan := plan)  h ?_ (fun e h => And.intro h.1 (hx e h.2)); clear h; intro row h
  with_reducible refine k_vas (noLL_map (f := D.int) row) ?_
  refine set_lit (δ' := [some (.d ((eW3 D.int D.int (eV D.int)) plan)), some (.d (D.int span)), some (.own none (List.map D.int row)), none]) rfl ?_
  with_reducible refine w_seq (w_as3 ?_)
  obtain ⟨s1, h⟩ := h
  with_reducible refine e_op (e_op (e_cb (a_cons (e_v1 (a_nil (o_int (e_op (e_v0 (e_c (y_w0 (y_mod s1 (e_c (o_add ?_)))))))))))))
  refine gen_d3 D.int h ?_; clear h; intro z h
  with_reducible refine w_seq (w_si2 ?_)
  obtain ⟨s2, h⟩ := h
  with_reducible refine e_op (e_op (e_vo2 (e_v3 (y_ixL s2 (e_op (e_v0 (e_c (y_w1 (o_add (e_v3 ?_))))))))))
  obtain ⟨s3, h⟩ := h
  with_reducible refine y_set (f := D.int) (xs := row) (y := ((gi row z) + plan.2.1)) s3 (w_fz2 (w_ret (e_v2 ?_)))
  exact hq (st row z ((gi row z) + plan.2.1)) h

noncomputable def t__law_dealing (plan : (Int × Int × (List Int))) (span : Int) (Q : (List Int) → Prop) (X : Exn → Prop) : Prop :=
  t__law_due_spots plan span (fun (due : (List Int)) => (b62 1 ∧ b62 (plan.1 + 1)) ∧ forK (rg 1 (plan.1 + 1)) (fun (c_ : Int) (k : (List Int) → Prop) (spots : (List Int)) => ixOk due c_ ∧ b62 (gi due c_) ∧ ((rg 0 (gi due c_)).length ≤ szl) ∧ (spots.length + (List.map (fun (k_ : Int) => c_) (rg 0 (gi due c_))).length ≤ szl) ∧ k (spots ++ (List.map (fun (k_ : Int) => c_) (rg 0 (gi due c_))))) (fun (spots : (List Int)) => forK plan.2.2 (fun (first : Int) (k : (List Int) → (List Int) → Prop) (spots2 : (List Int)) (row : (List Int)) => takeOk (spots2.length : Int) ∧ takeT (spots2.length : Int) (fun (r1 : Int) => (ixOk spots2 r1 ∧ spots2.length < 2 ^ 62) ∧ (row.length < szl) ∧ k (era spots2 r1) (row ++ [gi spots2 r1]))) (fun (spots2 : (List Int)) (row : (List Int)) => Q row) spots ([] : List Int)) ([] : List Int)) X

theorem tr__law_dealing {plan : (Int × Int × (List Int))} {span : Int}  {Qt : (List Int) → Prop} {Xt : Exn → Prop} {P : D → Prop} {P2 : Exn → Prop}  (h : t__law_dealing plan span Qt Xt) (hq : ∀ r, Qt r → P ((eL D.int) r)) (hx : ∀ e, Xt e → P2 e) : w__law_dealing [D.pool, ((eW3 D.int D.int (eV D.int)) plan), (D.int span)] P P2 := by
  unfold t__law_dealing at h
  unfold w__law_dealing wpB
  show b__law_dealing _ [some (.d D.pool), some (.d ((eW3 D.int D.int (eV D.int)) plan)), some (.d (D.int span)), none, none, none, none, none, none]
  unfold b__law_dealing
  with_reducible refine w_seq (w_as3 (e_call (a_cons (e_v1 (a_cons (e_v2 (a_nil ?_)))))))
  refine tr__law_due_spots (plan := plan) (span := span)  h ?_ hx; clear h; intro due h
  with_reducible refine w_seq (w_ao4 (e_lstK (a_nil (y_mk0 (f := D.int)  (k_ao (w_seq (w_for ?_)))))))
  obtain ⟨s1, h⟩ := h
  with_reducible refine y_rg2 (fun _ hQ => e_c hQ) (fun _ hQ => e_op (e_op (e_v1 (e_c (y_w0 (e_c (o_add hQ))))))) s1 ?_
  refine w_forK D.int (fun (k : (List Int) → Prop) N => ∀ (spots : (List Int)) (o1 : Option S), k spots → N [some (.d D.pool), some (.d ((eW3 D.int D.int (eV D.int)) plan)), some (.d (D.int span)), some (.d (D.lst (List.map D.int due))), some (.own none (List.map D.int spots)), o1, none, none, none]) ?_ ?_ ([] : List Int) _ h <;> clear h
  · intro spots o1 h
    try dsimp only at h
    with_reducible refine w_seq (w_ao7 (e_lstK (a_nil (y_mk0 (f := D.int)  (k_ao (w_seq (w_for (y_it (fun _ hQ => e_op (e_v1 (e_c (y_w2 hQ)))) (f := D.int) (xs := plan.2.2) hdV ?_))))))))
    refine w_forK D.int (fun (k : (List Int) → (List Int) → Prop) N => ∀ (spots2 : (List Int)) (row : (List Int)) (o2 : Option S), k spots2 row → N [some (.d D.pool), some (.d ((eW3 D.int D.int (eV D.int)) plan)), some (.d (D.int span)), some (.d (D.lst (List.map D.int due))), some (.own none (List.map D.int spots2)), o1, none, some (.own none (List.map D.int row)), o2]) ?_ ?_ spots ([] : List Int) _ h <;> clear h
    · intro spots2 row o2 h
      try dsimp only at h
      with_reducible refine w_fz7 (w_ret (e_v7 ?_))
      exact hq row h
    · intro first k N hn spots2 row o2 h
      try dsimp only at h
      with_reducible refine g_n8 (w_amp7_4 (e_call (a_cons (e_v0 (a_cons (e_cb (a_cons (e_vo4 (a_nil (y_lenL  (a_nil ?_)))))))))))
      obtain ⟨s2, h⟩ := h
      refine tr_take s2 h ?_; clear h; intro r1 h
      obtain ⟨s3, h⟩ := h
      obtain ⟨s4, h⟩ := h
      with_reducible refine y_pop (f := D.int) s3 (y_app (f := D.int) (xs := row) (y := gi spots2 r1) s4 ?_)
      exact hn (era spots2 r1) (row ++ [gi spots2 r1]) _ h
  · intro c_ k N hn spots o1 h
    try dsimp only at h
    with_reducible refine g_n5 (w_ex4 ?_)
    obtain ⟨s5, h⟩ := h
    obtain ⟨s6, h⟩ := h
    obtain ⟨s7, h⟩ := h
    with_reducible refine w_lc_6 (y_rg1 (fun _ hQ => e_op (e_v3 (e_v5 (y_ixL s5 hQ)))) s6 (y_lcM (f := D.int) (g := D.int) (fun (k_ : Int) => c_) s7 (fun k_ hx_ _ hQ => g_n6 (e_v5 hQ)) ?_))
    obtain ⟨s8, h⟩ := h
    with_reducible refine y_ext (f := D.int) (xs := spots) (ys := (List.map (fun (k_ : Int) => c_) (rg 0 (gi due c_)))) s8 ?_
    exact hn (spots ++ (List.map (fun (k_ : Int) => c_) (rg 0 (gi due c_)))) _ h

noncomputable def t__law_everybody (plan : (Int × Int × (List Int))) (span : Int) (Q : (List Int) → Prop) (X : Exn → Prop) : Prop :=
  takeT 4 (fun (way : Int) => ifP (way = 0) ((plan.2.2.length ≤ szl) ∧ lcK (fun (first2 : Int) (k : Option Int → Prop) => takeOk plan.1 ∧ takeT plan.1 (fun (r1 : Int) => k (some (1 + r1)))) (fun (es : List Int) => Q es) plan.2.2 []) (t__law_dealing plan span (fun (row : (List Int)) => ifP (way = 1) (Q row) (jn (fun (k : Int → Prop) => ifP (way = 3) ((plan.2.2.length ≤ szl) ∧ (∀ first3 ∈ plan.2.2, 0 < plan.1) ∧ bnd ((plan.2.2.filter fun (first3 : Int) => decide (first3 ≤ ((span % plan.1) + 1))).length : Int) (fun (low2 : Int) => k low2)) (k 0)) (fun (low : Int) => b62 (row.length : Int) ∧ ((rg 0 (row.length : Int)).length ≤ szl) ∧ (∀ i ∈ (rg 0 (row.length : Int)), ixOk plan.2.2 i) ∧ ((List.map (fun (i : Int) => ((gi plan.2.2 i), i)) (rg 0 (row.length : Int))).length < 64 ∧ ∀ p ∈ (List.map (fun (i : Int) => ((gi plan.2.2 i), i)) (rg 0 (row.length : Int))), 0 ≤ p.2 ∧ p.2 < 1000) ∧ bnd (srtP (List.map (fun (i : Int) => ((gi plan.2.2 i), i)) (rg 0 (row.length : Int)))) (fun (late : (List (Int × Int))) => 0 ≤ low ∧ 0 ≤ low ∧ ((slT late low).length + ((slF late low).reverse).length ≤ szl) ∧ bnd ((slT late low) ++ ((slF late low).reverse)) (fun (late2 : (List (Int × Int))) => bnd (srt row) (fun (spots : (List Int)) => b62 (row.length : Int) ∧ forK (rg 0 (row.length : Int)) (fun (k_ : Int) (k : (List Int) → Prop) (row2 : (List Int)) => ixOk spots k_ ∧ ixOk late2 k_ ∧ ixOk row2 ((gi late2 k_).2) ∧ k (st row2 ((gi late2 k_).2) (gi spots k_))) (fun (row2 : (List Int)) => takeT 3 (fun (r2 : Int) => b62 r2 ∧ forK (rg 0 r2) (fun (k_2 : Int) (k : (List Int) → Prop) (row3 : (List Int)) => takeOk (row3.length : Int) ∧ takeT (row3.length : Int) (fun (i2 : Int) => takeOk (row3.length : Int) ∧ takeT (row3.length : Int) (fun (j : Int) => ixOk row3 i2 ∧ bnd (gi row3 i2) (fun (kept : Int) => ixOk row3 j ∧ ixOk row3 i2 ∧ ixOk (st row3 i2 (gi row3 j)) j ∧ k (st (st row3 i2 (gi row3 j)) j kept))))) (fun (row3 : (List Int)) => Q row3) row2)) row)))))) (fun e => noVL e.ds = true ∧ X e)))

theorem tr__law_everybody {plan : (Int × Int × (List Int))} {span : Int}  {Qt : (List Int) → Prop} {Xt : Exn → Prop} {P : D → Prop} {P2 : Exn → Prop}  (h : t__law_everybody plan span Qt Xt) (hq : ∀ r, Qt r → P ((eL D.int) r)) (hx : ∀ e, Xt e → P2 e) : w__law_everybody [D.pool, ((eR3 D.int D.int (eL D.int)) plan), (D.int span)] P P2 := by
  unfold t__law_everybody at h
  unfold w__law_everybody wpB
  show b__law_everybody _ [some (.d D.pool), some (.d ((eR3 D.int D.int (eL D.int)) plan)), some (.d (D.int span)), none, none, none, none, none, none, none, none, none, none]
  unfold b__law_everybody
  with_reducible refine w_seq (w_as3 (e_call (a_cons (e_v0 (a_cons (e_c (a_nil ?_)))))))
  have s1 : takeOk 4 := ⟨by decide, by decide⟩
  refine tr_take s1 h ?_; clear h; intro way h
  with_reducible refine w_seq ?_
  with_reducible refine w_ifT (p := way = 0) (tt_cmp (p := way = 0) (fun _ hQ => e_op (e_v3 (e_c (o_eq hQ))))) (fun c => ?_) (fun c => ?_)
  · replace h := h.1 c
    with_reducible refine w_ret (w_lc_4 (y_it (fun _ hQ => e_op (e_v1 (e_c (y_l2 hQ)))) (f := D.int) (xs := plan.2.2) hdL ?_))
    obtain ⟨s4, h⟩ := h
    refine y_lcK (f := D.int) (g := D.int) s4 h ?_ ?_ <;> clear h
    · intro es h
      exact hq es h
    · intro first2 k A Qe hk1 hk2 h
      try dsimp only at h
      with_reducible refine g_n4 (t_yes (w_tt (e_op (e_c (e_call (a_cons (e_v0 (a_cons (e_op (e_v1 (e_c (y_l0 (a_nil ?_)))))))))))))
      obtain ⟨s5, h⟩ := h
      refine tr_take s5 h ?_; clear h; intro r1 h
      with_reducible refine o_add ?_
      exact hk1 (1 + r1) h
  · replace h := h.2 c
    with_reducible refine w_next (w_seq (w_asV (vd_d (d' := D.pool) rfl (vd_d (d' := ((eW3 D.int D.int (eV D.int)) plan)) (vq (f := (eR3 D.int D.int (eL D.int))) plan) (vd_d (d' := (D.int span)) rfl (vd_f (vd_f (vd_f (vd_f (vd_f (vd_f (vd_f (vd_f (vd_f (vd_f vd_e))))))))))))) (e_call (a_cons (e_v0 (a_cons (e_v1 (a_cons (e_v2 (a_nil ?_))))))))))
    refine tr__law_dealing (plan := plan) (span := span)  h ?_ (fun e h => And.intro h.1 (hx e h.2)); clear h; intro row h
    with_reducible refine k_vas (noLL_map (f := D.int) row) ?_
    refine set_lit (δ' := [some (.d D.pool), some (.d ((eR3 D.int D.int (eL D.int)) plan)), some (.d (D.int span)), some (.d (D.int way)), none, some (.own none (List.map D.int row)), none, none, none, none, none, none, none]) rfl ?_
    with_reducible refine w_seq ?_
    with_reducible refine w_ifT (p := way = 1) (tt_cmp (p := way = 1) (fun _ hQ => e_op (e_v3 (e_c (o_eq hQ))))) (fun c => ?_) (fun c => ?_)
    · replace h := h.1 c
      with_reducible refine w_fz5 (w_ret (e_v5 ?_))
      exact hq row h
    · replace h := h.2 c
      with_reducible refine w_next (w_seq (w_as6 (e_c ?_)))
      with_reducible refine w_seqJ (fun (k : Int → Prop) N => ∀ (low : Int), k low → N [some (.d D.pool), some (.d ((eR3 D.int D.int (eL D.int)) plan)), some (.d (D.int span)), some (.d (D.int way)), none, some (.own none (List.map D.int row)), some (.d (D.int low)), none, none, none, none, none, none]) h ?_ ?_ <;> clear h
      · intro low h
        try dsimp only at h
        with_reducible refine w_seq (w_as7 ?_)
        obtain ⟨s6, h⟩ := h
        obtain ⟨s7, h⟩ := h
        obtain ⟨s9, h⟩ := h
        obtain ⟨s10, h⟩ := h
        with_reducible refine e_cb (a_cons (w_lc_8 (y_rg1 (fun _ hQ => e_cb (a_cons (e_vo5 (a_nil (y_lenL  hQ))))) s6 (y_lcM (f := D.int) (g := (eP2 D.int D.int)) (fun (i : Int) => ((gi plan.2.2 i), i)) s7 (fun i hx_2 _ hQ => g_n8 (e_tup (a_cons (e_op (e_op (e_v1 (e_c (y_l2 (e_v8 (y_ixL (s9 i hx_2) (a_cons (e_v8 (a_nil (And.intro ln2 hQ)))))))))))))) (a_nil (y_srtP (ps := (List.map (fun (i : Int) => ((gi plan.2.2 i), i)) (rg 0 (row.length : Int)))) s10 ?_))))))
        refine gen_d7 (eL (eP2 D.int D.int)) h ?_; clear h; intro late h
        with_reducible refine w_seq (w_as7 ?_)
        obtain ⟨s11, h⟩ := h
        obtain ⟨s12, h⟩ := h
        obtain ⟨s13, h⟩ := h
        with_reducible refine e_op (e_sl (e_v7 (e_no (e_part (e_v6 (k_intO (y_slT s11 (y_revL (fun _ hQ => e_sl (e_v7 (e_part (e_v6 (k_intO (e_no (y_slF s12 hQ))))))) (y_addL s13 ?_)))))))))
        refine gen_d7 (eL (eP2 D.int D.int)) h ?_; clear h; intro late2 h
        with_reducible refine w_seq (w_as9 (e_cb (a_cons (e_vo5 (a_nil (y_srt ?_))))))
        refine gen_d9 (eL D.int) h ?_; clear h; intro spots h
        with_reducible refine w_seq (w_for ?_)
        obtain ⟨s14, h⟩ := h
        with_reducible refine y_rg1 (fun _ hQ => e_cb (a_cons (e_vo5 (a_nil (y_lenL  hQ))))) s14 ?_
        refine w_forK D.int (fun (k : (List Int) → Prop) N => ∀ (row2 : (List Int)) (o1 : Option S), k row2 → N [some (.d D.pool), some (.d ((eR3 D.int D.int (eL D.int)) plan)), some (.d (D.int span)), some (.d (D.int way)), none, some (.own none (List.map D.int row2)), some (.d (D.int low)), some (.d (D.lst (List.map (eP2 D.int D.int) late2))), none, some (.d (D.lst (List.map D.int spots))), o1, none, none]) ?_ ?_ row _ h <;> clear h
        · intro row2 o1 h
          try dsimp only at h
          with_reducible refine w_seq (w_for (l_rg1K (e_call (a_cons (e_v0 (a_cons (e_c (a_nil ?_))))))))
          have s15 : takeOk 3 := ⟨by decide, by decide⟩
          refine tr_take s15 h ?_; clear h; intro r2 h
          obtain ⟨s16, h⟩ := h
          with_reducible refine k_rg1 s16 ?_
          refine w_forK D.int (fun (k : (List Int) → Prop) N => ∀ (row3 : (List Int)) (o2 o3 o4 o5 : Option S), k row3 → N [some (.d D.pool), some (.d ((eR3 D.int D.int (eL D.int)) plan)), some (.d (D.int span)), some (.d (D.int way)), none, some (.own none (List.map D.int row3)), some (.d (D.int low)), some (.d (D.lst (List.map (eP2 D.int D.int) late2))), o2, some (.d (D.lst (List.map D.int spots))), o3, o4, o5]) ?_ ?_ row2 _ _ _ _ h <;> clear h
          · intro row3 o2 o3 o4 o5 h
            try dsimp only at h
            with_reducible refine w_fz5 (w_ret (e_v5 ?_))
            exact hq row3 h
          · intro k_2 k N hn row3 o2 o3 o4 o5 h
            try dsimp only at h
            with_reducible refine g_n10 (w_seq (w_as8 (e_call (a_cons (e_v0 (a_cons (e_cb (a_cons (e_vo5 (a_nil (y_lenL  (a_nil ?_))))))))))))
            obtain ⟨s17, h⟩ := h
            refine tr_take s17 h ?_; clear h; intro i2 h
            with_reducible refine w_seq (w_as11 (e_call (a_cons (e_v0 (a_cons (e_cb (a_cons (e_vo5 (a_nil (y_lenL  (a_nil ?_)))))))))))
            obtain ⟨s18, h⟩ := h
            refine tr_take s18 h ?_; clear h; intro j h
            with_reducible refine w_seq (w_as12 ?_)
            obtain ⟨s19, h⟩ := h
            with_reducible refine e_op (e_vo5 (e_v8 (y_ixL s19 ?_)))
            refine gen_d12 D.int h ?_; clear h; intro kept h
            with_reducible refine w_seq (w_si5 ?_)
            obtain ⟨s20, h⟩ := h
            with_reducible refine e_op (e_vo5 (e_v11 (y_ixL s20 (e_v8 ?_))))
            obtain ⟨s21, h⟩ := h
            with_reducible refine y_set (f := D.int) (xs := row3) (y := (gi row3 j)) s21 (w_si5 (e_v12 (e_v11 ?_)))
            obtain ⟨s22, h⟩ := h
            with_reducible refine y_set (f := D.int) (xs := (st row3 i2 (gi row3 j))) (y := kept) s22 ?_
            exact hn (st (st row3 i2 (gi row3 j)) j kept) _ _ _ _ h
        · intro k_ k N hn row2 o1 h
          try dsimp only at h
          with_reducible refine g_n10 (w_si5 ?_)
          obtain ⟨s23, h⟩ := h
          with_reducible refine e_op (e_v9 (e_v10 (y_ixL s23 ?_)))
          obtain ⟨s24, h⟩ := h
          with_reducible refine e_op (e_op (e_v7 (e_v10 (y_ixL s24 (e_c (y_t1 ?_))))))
          obtain ⟨s25, h⟩ := h
          with_reducible refine y_set (f := D.int) (xs := row2) (y := (gi spots k_)) s25 ?_
          exact hn (st row2 ((gi late2 k_).2) (gi spots k_)) _ h
      · intro k N hn h
        try dsimp only at h
        with_reducible refine w_ifT (p := way = 3) (tt_cmp (p := way = 3) (fun _ hQ => e_op (e_v3 (e_c (o_eq hQ))))) (fun c => ?_) (fun c => ?_)
        · replace h := h.1 c
          with_reducible refine w_as6 ?_
          obtain ⟨s26, h⟩ := h
          obtain ⟨s28, h⟩ := h
          with_reducible refine e_cb (a_cons (w_lc_4 (y_it (fun _ hQ => e_op (e_v1 (e_c (y_l2 hQ)))) (f := D.int) (xs := plan.2.2) hdL (y_lcF (f := D.int) (fun (first3 : Int) => first3 ≤ ((span % plan.1) + 1)) s26 (fun first3 hx_3 A Q hq1_ hq2_ => g_n4 ((tt_cmp (p := first3 ≤ ((span % plan.1) + 1)) (fun _ hQ => e_op (e_v4 (e_op (e_op (e_cb (a_cons (e_v2 (a_nil (o_int (e_op (e_v1 (e_c (y_l0 (y_mod (s28 first3 hx_3) (e_c (o_add (o_le hQ)))))))))))))))))) _ fun b hb => w_ifB hb (fun hp3 => (e_v4 (hq1_ hp3))) hq2_)) (a_nil (y_lenL  ?_))))))
          refine gen_d6 D.int h ?_; clear h; intro low2 h
          exact hn low2 h
        · replace h := h.2 c
          with_reducible refine w_next ?_
          exact hn 0 h

noncomputable def t__law_fewest (plan : (Int × Int × (List Int))) (z : Int) (wish : (List Int)) (Q : Int → Prop) (X : Exn → Prop) : Prop :=
  b62 (wish.length : Int) ∧ ((rg 0 (wish.length : Int)).length ≤ szl) ∧ (∀ i ∈ (rg 0 (wish.length : Int)), ixOk wish i) ∧ (∀ i ∈ (rg 0 (wish.length : Int)), ixOk plan.2.2 i) ∧ bnd ((rg 0 (wish.length : Int)).filter fun (i : Int) => decide ((gi wish i) < (gi plan.2.2 i))) (fun (back : (List Int)) => (back.length ≤ szl) ∧ (∀ i2 ∈ back, ixOk wish i2) ∧ bnd (back.filter fun (i2 : Int) => decide (z < (gi wish i2))) (fun (behind : (List Int)) => forK (rg 0 13) (fun (j : Int) (k : Prop) => mulT plan.2.1 j ∧ ((back.length : Int) ≤ (plan.2.1 * j) → mulT plan.2.1 (mx 0 (j - 1))) ∧ ifP (((back.length : Int) ≤ (plan.2.1 * j) ∧ (behind.length : Int) ≤ (plan.2.1 * (mx 0 (j - 1))))) (Q j) (k)) (Q 13)))

theorem tr__law_fewest {plan : (Int × Int × (List Int))} {z : Int} {wish : (List Int)} {d_wish : D} {Qt : Int → Prop} {Xt : Exn → Prop} {P : D → Prop} {P2 : Exn → Prop} (hd_wish : itemsD d_wish = some (List.map D.int wish)) (h : t__law_fewest plan z wish Qt Xt) (hq : ∀ r, Qt r → P (D.int r)) (hx : ∀ e, Xt e → P2 e) : w__law_fewest [((eR3 D.int D.int (eL D.int)) plan), (D.int z), d_wish] P P2 := by
  unfold t__law_fewest at h
  unfold w__law_fewest wpB
  show b__law_fewest _ [some (.d ((eR3 D.int D.int (eL D.int)) plan)), some (.d (D.int z)), some (.d d_wish), none, none, none, none]
  unfold b__law_fewest
  with_reducible refine w_seq (w_as3 ?_)
  obtain ⟨s1, h⟩ := h
  obtain ⟨s2, h⟩ := h
  obtain ⟨s5, h⟩ := h
  obtain ⟨s6, h⟩ := h
  with_reducible refine w_lc_4 (y_rg1 (fun _ hQ => e_cb (a_cons (e_v2 (a_nil (y_lenS hd_wish hQ))))) s1 (y_lcF (f := D.int) (fun (i : Int) => (gi wish i) < (gi plan.2.2 i)) s2 (fun i hx_ A Q hq1_ hq2_ => g_n4 ((tt_cmp (p := (gi wish i) < (gi plan.2.2 i)) (fun _ hQ => e_op (e_op (e_v2 (e_v4 (y_ixS hd_wish (s5 i hx_) (e_op (e_op (e_v0 (e_c (y_l2 (e_v4 (y_ixL (s6 i hx_) (o_lt hQ)))))))))))))) _ fun b hb => w_ifB hb (fun hp => (e_v4 (hq1_ hp))) hq2_)) ?_))
  refine gen_d3 (eL D.int) h ?_; clear h; intro back h
  with_reducible refine w_seq (w_as5 ?_)
  obtain ⟨s7, h⟩ := h
  obtain ⟨s9, h⟩ := h
  with_reducible refine w_lc_4 (y_it (fun _ hQ => e_v3 hQ) (f := D.int) (xs := back) hdL (y_lcF (f := D.int) (fun (i2 : Int) => z < (gi wish i2)) s7 (fun i2 hx_2 A Q hq1_ hq2_ => g_n4 ((tt_cmp (p := z < (gi wish i2)) (fun _ hQ => e_op (e_op (e_v2 (e_v4 (y_ixS hd_wish (s9 i2 hx_2) (e_v1 (o_gt hQ)))))))) _ fun b hb => w_ifB hb (fun hp2 => (e_v4 (hq1_ hp2))) hq2_)) ?_))
  refine gen_d5 (eL D.int) h ?_; clear h; intro behind h
  with_reducible refine w_seq (w_for ?_)
  have s10 : b62 13 := ⟨by decide, by decide⟩
  with_reducible refine y_rg1 (fun _ hQ => e_c hQ) s10 ?_
  refine w_forK D.int (fun (k : Prop) N => ∀ (o1 : Option S), k → N [some (.d ((eR3 D.int D.int (eL D.int)) plan)), some (.d (D.int z)), some (.d d_wish), some (.d (D.lst (List.map D.int back))), none, some (.d (D.lst (List.map D.int behind))), o1]) ?_ ?_  _ h <;> clear h
  · intro o1 h
    try dsimp only at h
    with_reducible refine w_ret (e_c ?_)
    exact hq 13 h
  · intro j k N hn o1 h
    try dsimp only at h
    with_reducible refine g_n6 ?_
    obtain ⟨s11, h⟩ := h
    obtain ⟨s13, h⟩ := h
    with_reducible refine w_ifT (p := ((back.length : Int) ≤ (plan.2.1 * j) ∧ (behind.length : Int) ≤ (plan.2.1 * (mx 0 (j - 1))))) (tt_and (p := (back.length : Int) ≤ (plan.2.1 * j)) (q := (behind.length : Int) ≤ (plan.2.1 * (mx 0 (j - 1)))) (tt_cmp (p := (back.length : Int) ≤ (plan.2.1 * j)) (fun _ hQ => e_op (e_cb (a_cons (e_v3 (a_nil (y_lenL  (e_op (e_op (e_v0 (e_c (y_l1 (e_v6 (y_mul s11 (o_le hQ))))))))))))))) (fun hp3 => (tt_cmp (p := (behind.length : Int) ≤ (plan.2.1 * (mx 0 (j - 1)))) (fun _ hQ => e_op (e_cb (a_cons (e_v5 (a_nil (y_lenL  (e_op (e_op (e_v0 (e_c (y_l1 (e_cb (a_cons (e_c (a_cons (e_op (e_v6 (e_c (o_sub (a_nil (y_max (y_mul (s13 hp3) (o_le hQ)))))))))))))))))))))))))) (fun c => ?_) (fun c => ?_)
    · replace h := h.1 c
      with_reducible refine w_ret (e_v6 ?_)
      exact hq j h
    · replace h := h.2 c
      with_reducible refine w_next ?_
      exact hn _ h

noncomputable def t_check_period_and_quota (period : Int) (quota : Int) (Q : Unit → Prop) (X : Exn → Prop) : Prop :=
  ifP (¬ ((1 ≤ period ∧ period ≤ 8))) (X ⟨22, [(D.int period), (D.str ("period" : Str))]⟩) (ifP (¬ ((1 ≤ quota ∧ quota ≤ 12))) (X ⟨22, [(D.int quota), (D.str ("quota" : Str))]⟩) (Q ()))

theorem tr_check_period_and_quota {period : Int} {quota : Int}  {Qt : Unit → Prop} {Xt : Exn → Prop} {P : D → Prop} {P2 : Exn → Prop}  (h : t_check_period_and_quota period quota Qt Xt) (hq : ∀ r, Qt r → P (eN r)) (hx : ∀ e, Xt e → P2 e) : w_check_period_and_quota [(D.int period), (D.int quota)] P P2 := by
  unfold t_check_period_and_quota at h
  unfold w_check_period_and_quota wpB
  show b_check_period_and_quota _ [some (.d (D.int period)), some (.d (D.int quota))]
  unfold b_check_period_and_quota
  with_reducible refine w_seq ?_
  with_reducible refine w_ifT (p := ¬ ((1 ≤ period ∧ period ≤ 8))) (tt_not (p := (1 ≤ period ∧ period ≤ 8)) (tt_cmp (p := (1 ≤ period ∧ period ≤ 8)) (fun _ hQ => e_chainT (p := 1 ≤ period) (p' := period ≤ 8) (fun _ hQ => e_c hQ) (fun _ hQ => e_v0 hQ) (fun _ => (fun _ hQ => e_c hQ)) (fun _ hQ => o_le hQ) (fun _ hQ => o_le hQ) hQ))) (fun c => ?_) (fun c => ?_)
  · replace h := h.1 c
    with_reducible refine w_raise (a_cons (e_v0 (a_cons (e_c (a_nil ?_)))))
    refine ⟨rfl, (fun z => by cases z), ?_⟩
    exact (hx) _ h
  · replace h := h.2 c
    with_reducible refine w_next ?_
    with_reducible refine w_ifT (p := ¬ ((1 ≤ quota ∧ quota ≤ 12))) (tt_not (p := (1 ≤ quota ∧ quota ≤ 12)) (tt_cmp (p := (1 ≤ quota ∧ quota ≤ 12)) (fun _ hQ => e_chainT (p := 1 ≤ quota) (p' := quota ≤ 12) (fun _ hQ => e_c hQ) (fun _ hQ => e_v1 hQ) (fun _ => (fun _ hQ => e_c hQ)) (fun _ hQ => o_le hQ) (fun _ hQ => o_le hQ) hQ))) (fun c => ?_) (fun c => ?_)
    · replace h := h.1 c
      with_reducible refine w_raise (a_cons (e_v1 (a_cons (e_c (a_nil ?_)))))
      refine ⟨rfl, (fun z => by cases z), ?_⟩
      exact (hx) _ h
    · replace h := h.2 c
      with_reducible refine w_next ?_
      exact hq () h

noncomputable def t_check_firsts (period : Int) (quota : Int) (firsts : (List Int)) (Q : Unit → Prop) (X : Exn → Prop) : Prop :=
  ifP (¬ ((1 ≤ (firsts.length : Int) ∧ (firsts.length : Int) ≤ 12))) (X ⟨22, [(D.int (firsts.length : Int)), (D.str ("drivers" : Str))]⟩) (forK (en 0 firsts) (fun (r1 : (Int × Int)) (k : Prop) => ifP (¬ ((1 ≤ r1.2 ∧ r1.2 ≤ period))) (X ⟨22, [(D.int r1.1), (D.str ("first" : Str))]⟩) (k)) (bnd ((firsts.count 1 : Nat) : Int) (fun (ones : Int) => ifP (ones < quota) (X ⟨22, [(D.int ones), (D.str ("ones" : Str))]⟩) (Q ()))))

theorem tr_check_firsts {period : Int} {quota : Int} {firsts : (List Int)} {d_firsts : D} {Qt : Unit → Prop} {Xt : Exn → Prop} {P : D → Prop} {P2 : Exn → Prop} (hd_firsts : itemsD d_firsts = some (List.map D.int firsts)) (h : t_check_firsts period quota firsts Qt Xt) (hq : ∀ r, Qt r → P (eN r)) (hx : ∀ e, Xt e → P2 e) : w_check_firsts [(D.int period), (D.int quota), d_firsts] P P2 := by
  unfold t_check_firsts at h
  unfold w_check_firsts wpB
  show b_check_firsts _ [some (.d (D.int period)), some (.d (D.int quota)), some (.d d_firsts), none, none, none]
  unfold b_check_firsts
  with_reducible refine w_seq ?_
  with_reducible refine w_ifT (p := ¬ ((1 ≤ (firsts.length : Int) ∧ (firsts.length : Int) ≤ 12))) (tt_not (p := (1 ≤ (firsts.length : Int) ∧ (firsts.length : Int) ≤ 12)) (tt_cmp (p := (1 ≤ (firsts.length : Int) ∧ (firsts.length : Int) ≤ 12)) (fun _ hQ => e_chainT (p := 1 ≤ (firsts.length : Int)) (p' := (firsts.length : Int) ≤ 12) (fun _ hQ => e_c hQ) (fun _ hQ => e_cb (a_cons (e_v2 (a_nil (y_lenS hd_firsts hQ))))) (fun _ => (fun _ hQ => e_c hQ)) (fun _ hQ => o_le hQ) (fun _ hQ => o_le hQ) hQ))) (fun c => ?_) (fun c => ?_)
  · replace h := h.1 c
    with_reducible refine w_raise (a_cons (e_cb (a_cons (e_v2 (a_nil (y_lenS hd_firsts (a_cons (e_c (a_nil ?_)))))))))
    refine ⟨rfl, (fun z => by cases z), ?_⟩
    exact (hx) _ h
  · replace h := h.2 c
    with_reducible refine w_next (w_seq (w_for (y_en (fun _ hQ => e_v2 hQ) (f := D.int) (xs := firsts) hd_firsts ?_)))
    refine w_forK (eP2 D.int D.int) (fun (k : Prop) N => ∀ (o1 o2 : Option S), k → N [some (.d (D.int period)), some (.d (D.int quota)), some (.d d_firsts), o1, o2, none]) ?_ ?_  _ _ h <;> clear h
    · intro o1 o2 h
      try dsimp only at h
      with_reducible refine w_seq (w_as5 (e_cnt (ns := firsts) hd_firsts (fun _ hQ => e_v2 hQ) (e_c (k_cnt ?_))))
      refine gen_d5 D.int h ?_; clear h; intro ones h
      with_reducible refine w_ifT (p := ones < quota) (tt_cmp (p := ones < quota) (fun _ hQ => e_op (e_v5 (e_v1 (o_lt hQ))))) (fun c => ?_) (fun c => ?_)
      · replace h := h.1 c
        with_reducible refine w_raise (a_cons (e_v5 (a_cons (e_c (a_nil ?_)))))
        refine ⟨rfl, (fun z => by cases z), ?_⟩
        exact (hx) _ h
      · replace h := h.2 c
        with_reducible refine w_next ?_
        exact hq () h
    · intro r1 k N hn o1 o2 h
      try dsimp only at h
      with_reducible refine y_g2 (g_cons (g_n3 (g_cons (g_n4 (g_nil ?_)))))
      with_reducible refine w_ifT (p := ¬ ((1 ≤ r1.2 ∧ r1.2 ≤ period))) (tt_not (p := (1 ≤ r1.2 ∧ r1.2 ≤ period)) (tt_cmp (p := (1 ≤ r1.2 ∧ r1.2 ≤ period)) (fun _ hQ => e_chainT (p := 1 ≤ r1.2) (p' := r1.2 ≤ period) (fun _ hQ => e_c hQ) (fun _ hQ => e_v4 hQ) (fun _ => (fun _ hQ => e_v0 hQ)) (fun _ hQ => o_le hQ) (fun _ hQ => o_le hQ) hQ))) (fun c => ?_) (fun c => ?_)
      · replace h := h.1 c
        with_reducible refine w_raise (a_cons (e_v3 (a_cons (e_c (a_nil ?_)))))
        refine ⟨rfl, (fun z => by cases z), ?_⟩
        exact (hx) _ h
      · replace h := h.2 c
        with_reducible refine w_next ?_
        exact hn _ _ h

noncomputable def t_DepotU_initU (period : Int) (quota : Int) (firsts : (List Int)) (Q : Dp → Prop) (X : Exn → Prop) : Prop :=
  t_check_period_and_quota period quota (fun (r1 : Unit) => t_check_firsts period quota firsts (fun (r2 : Unit) => Q ⟨period, quota, firsts⟩) X) X

theorem tr_DepotU_initU {period : Int} {quota : Int} {firsts : (List Int)} {d_firsts : D} {Qt : Dp → Prop} {Xt : Exn → Prop} {P : List D → Prop} {P2 : Exn → Prop} (hd_firsts : itemsD d_firsts = some (List.map D.int firsts)) (h : t_DepotU_initU period quota firsts Qt Xt) (hq : ∀ r, Qt r → P [.int r.p, .int r.q, .tup (List.map D.int r.f)]) (hx : ∀ e, Xt e → P2 e) : i_DepotU_initU [(D.int period), (D.int quota), d_firsts] P P2 := by
  unfold t_DepotU_initU at h
  intro a
  show b_DepotU_initU _ [some (.slf a 0 []), some (.d (D.int period)), some (.d (D.int quota)), some (.d d_firsts)]
  unfold b_DepotU_initU
  with_reducible refine w_seq (w_drop (e_call (a_cons (e_v1 (a_cons (e_v2 (a_nil ?_)))))))
  refine tr_check_period_and_quota (period := period) (quota := quota)  h ?_ hx; clear h; intro r1 h
  with_reducible refine w_seq (w_drop (e_call (a_cons (e_v1 (a_cons (e_v2 (a_cons (e_v3 (a_nil ?_)))))))))
  refine tr_check_firsts (period := period) (quota := quota) (firsts := firsts) hd_firsts h ?_ hx; clear h; intro r2 h
  with_reducible refine w_seq ?_
  have hj : (([]) : List D).length = 0 := rfl
  with_reducible refine w_sf0 hj (e_v1 (w_seq ?_))
  have hj2 : ((([] ++ [(D.int period)])) : List D).length = 1 := rfl
  with_reducible refine w_sf0 hj2 (e_v2 ?_)
  have hj3 : (((([] ++ [(D.int period)]) ++ [(D.int quota)])) : List D).length = 2 := rfl
  with_reducible refine w_sf0 hj3 (e_cb (a_cons (e_v3 (a_nil (y_tuple (f := D.int) (xs := firsts) hd_firsts ?_)))))
  exact ⟨rfl, rfl, rfl, hq ⟨period, quota, firsts⟩ h⟩

theorem tr__law_due_spots'1 {plan : (Int × Int × (List Int))} {span : Int}  {Qt : (List Int) → Prop} {Xt : Exn → Prop} {P : D → Prop} {P2 : Exn → Prop}  (h : t__law_due_spots plan span Qt Xt) (hq : ∀ r, Qt r → P ((eL D.int) r)) (hx : ∀ e, Xt e → P2 e) : w__law_due_spots [((eR3 D.int D.int (eL D.int)) plan), (D.int span)] P P2 := by
  unfold t__law_due_spots at h
  unfold w__law_due_spots wpB
  show b__law_due_spots _ [some (.d ((eR3 D.int D.int (eL D.int)) plan)), some (.d (D.int span)), none, none]
  unfold b__law_due_spots
  with_reducible refine w_seq (w_asV (vd_d (d' := ((eW3 D.int D.int (eV D.int)) plan)) (vq (f := (eR3 D.int D.int (eL D.int))) plan) (vd_f (vd_f (vd_f vd_e)))) (e_call (a_cons (e_v0 (a_nil ?_)))))
  refine tr__law_spots (plan := plan)  h ?_ (fun e h => And.intro h.1 (hx e h.2)); clear h; intro row h
  with_reducible refine k_vas (noLL_map (f := D.int) row) ?_
  refine set_lit (δ' := [some (.d ((eR3 D.int D.int (eL D.int)) plan)), some (.d (D.int span)), some (.own none (List.map D.int row)), none]) rfl ?_
  with_reducible refine w_seq (w_as3 ?_)
  obtain ⟨s1, h⟩ := h
  with_reducible refine e_op (e_op (e_cb (a_cons (e_v1 (a_nil (o_int (e_op (e_v0 (e_c (y_l0 (y_mod s1 (e_c (o_add ?_)))))))))))))
  refine gen_d3 D.int h ?_; clear h; intro z h
  with_reducible refine w_seq (w_si2 ?_)
  obtain ⟨s2, h⟩ := h
  with_reducible refine e_op (e_op (e_vo2 (e_v3 (y_ixL s2 (e_op (e_v0 (e_c (y_l1 (o_add (e_v3 ?_))))))))))
  obtain ⟨s3, h⟩ := h
  with_reducible refine y_set (f := D.int) (xs := row) (y := ((gi row z) + plan.2.1)) s3 (w_fz2 (w_ret (e_v2 ?_)))
  exact hq (st row z ((gi row z) + plan.2.1)) h

noncomputable def t__law_counted (plan : (Int × Int × (List Int))) (span : Int) (wish : (List Int)) (Q0 : (Str × Int × Int × Int) → Prop) (Q1 : (Str × Int × Int) → Prop) (Q2 : (Str × (List Int)) → Prop) (X : Exn → Prop) : Prop :=
  divT plan.1 ∧ bnd (span / plan.1) (fun (j : Int) => t__law_due_spots plan span (fun (spots : (List Int)) => (b62 1 ∧ b62 (plan.1 + 1)) ∧ forK (rg 1 (plan.1 + 1)) (fun (c_ : Int) (k : Prop) => (wish.length ≤ szl) ∧ bnd ((wish.filter fun (x : Int) => decide (x = c_)).length : Int) (fun (have_ : Int) => ixOk spots c_ ∧ ifP ((gi spots c_) < have_) (ixOk spots c_ ∧ Q0 (("crowd" : Str), c_, have_, (gi spots c_))) (k))) (b62 (wish.length : Int) ∧ ((rg 0 (wish.length : Int)).length ≤ szl) ∧ (∀ i ∈ (rg 0 (wish.length : Int)), ixOk wish i) ∧ (∀ i ∈ (rg 0 (wish.length : Int)), ixOk plan.2.2 i) ∧ bnd ((rg 0 (wish.length : Int)).filter fun (i : Int) => decide ((gi wish i) < (gi plan.2.2 i))) (fun (back : (List Int)) => mulT plan.2.1 j ∧ ifP ((plan.2.1 * j) < (back.length : Int)) (mulT plan.2.1 j ∧ Q1 (("closings" : Str), (back.length : Int), (plan.2.1 * j))) ((back.length ≤ szl) ∧ (∀ i2 ∈ back, ixOk wish i2) ∧ (∀ i2 ∈ back, 0 < plan.1) ∧ bnd (back.filter fun (i2 : Int) => decide (((span % plan.1) + 1) < (gi wish i2))) (fun (behind : (List Int)) => mulT plan.2.1 (mx 0 (j - 1)) ∧ ifP ((plan.2.1 * (mx 0 (j - 1))) < (behind.length : Int)) (mulT plan.2.1 (mx 0 (j - 1)) ∧ Q1 (("lasts" : Str), (behind.length : Int), (plan.2.1 * (mx 0 (j - 1))))) (Q2 (("reached" : Str), wish))))))) X)

theorem tr__law_counted {plan : (Int × Int × (List Int))} {span : Int} {wish : (List Int)} {d_wish : D} {Qt0 : (Str × Int × Int × Int) → Prop} {Qt1 : (Str × Int × Int) → Prop} {Qt2 : (Str × (List Int)) → Prop} {Xt : Exn → Prop} {P : D → Prop} {P2 : Exn → Prop} (hd_wish : itemsD d_wish = some (List.map D.int wish)) (h : t__law_counted plan span wish Qt0 Qt1 Qt2 Xt) (hq0 : ∀ r, Qt0 r → P ((eP4 D.str D.int D.int D.int) r)) (hq1 : ∀ r, Qt1 r → P ((eP3 D.str D.int D.int) r)) (hq2 : ∀ r, Qt2 r → P ((eP2 D.str (eL D.int)) r)) (hx : ∀ e, Xt e → P2 e) : w__law_counted [((eR3 D.int D.int (eL D.int)) plan), (D.int span), d_wish] P P2 := by
  unfold t__law_counted at h
  unfold w__law_counted wpB
  show b__law_counted _ [some (.d ((eR3 D.int D.int (eL D.int)) plan)), some (.d (D.int span)), some (.d d_wish), none, none, none, none, none, none, none, none, none]
  unfold b__law_counted
  with_reducible refine w_seq (w_as3 (e_op (e_v0 (e_c (y_l0 (w_seq (w_as4 ?_)))))))
  obtain ⟨s1, h⟩ := h
  with_reducible refine e_op (e_v1 (e_v3 (y_div s1 ?_)))
  refine gen_d4 D.int h ?_; clear h; intro j h
  with_reducible refine w_seq (w_as5 (e_call (a_cons (e_v0 (a_cons (e_v1 (a_nil ?_)))))))
  refine tr__law_due_spots'1 (plan := plan) (span := span)  h ?_ hx; clear h; intro spots h
  with_reducible refine w_seq (w_for ?_)
  obtain ⟨s2, h⟩ := h
  with_reducible refine y_rg2 (fun _ hQ => e_c hQ) (fun _ hQ => e_op (e_v3 (e_c (o_add hQ)))) s2 ?_
  refine w_forK D.int (fun (k : Prop) N => ∀ (o1 o2 : Option S), k → N [some (.d ((eR3 D.int D.int (eL D.int)) plan)), some (.d (D.int span)), some (.d d_wish), some (.d (D.int plan.1)), some (.d (D.int j)), some (.d (D.lst (List.map D.int spots))), o1, o2, none, none, none, none]) ?_ ?_  _ _ h <;> clear h
  · intro o1 o2 h
    try dsimp only at h
    with_reducible refine w_seq (w_as9 ?_)
    obtain ⟨s3, h⟩ := h
    obtain ⟨s4, h⟩ := h
    obtain ⟨s7, h⟩ := h
    obtain ⟨s8, h⟩ := h
    with_reducible refine w_lc_10 (y_rg1 (fun _ hQ => e_cb (a_cons (e_v2 (a_nil (y_lenS hd_wish hQ))))) s3 (y_lcF (f := D.int) (fun (i : Int) => (gi wish i) < (gi plan.2.2 i)) s4 (fun i hx_ A Q hq1_ hq2_ => g_n10 ((tt_cmp (p := (gi wish i) < (gi plan.2.2 i)) (fun _ hQ => e_op (e_op (e_v2 (e_v10 (y_ixS hd_wish (s7 i hx_) (e_op (e_op (e_v0 (e_c (y_l2 (e_v10 (y_ixL (s8 i hx_) (o_lt hQ)))))))))))))) _ fun b hb => w_ifB hb (fun hp => (e_v10 (hq1_ hp))) hq2_)) ?_))
    refine gen_d9 (eL D.int) h ?_; clear h; intro back h
    with_reducible refine w_seq ?_
    obtain ⟨s9, h⟩ := h
    with_reducible refine w_ifT (p := (plan.2.1 * j) < (back.length : Int)) (tt_cmp (p := (plan.2.1 * j) < (back.length : Int)) (fun _ hQ => e_op (e_cb (a_cons (e_v9 (a_nil (y_lenL  (e_op (e_op (e_v0 (e_c (y_l1 (e_v4 (y_mul s9 (o_gt hQ))))))))))))))) (fun c => ?_) (fun c => ?_)
    · replace h := h.1 c
      with_reducible refine w_ret ?_
      obtain ⟨s10, h⟩ := h
      with_reducible refine e_tup (a_cons (e_c (a_cons (e_cb (a_cons (e_v9 (a_nil (y_lenL  (a_cons (e_op (e_op (e_v0 (e_c (y_l1 (e_v4 (y_mul s10 (a_nil (And.intro ln3 ?_))))))))))))))))))
      exact hq1 (("closings" : Str), (back.length : Int), (plan.2.1 * j)) h
    · replace h := h.2 c
      with_reducible refine w_next (w_seq (w_as11 ?_))
      obtain ⟨s11, h⟩ := h
      obtain ⟨s14, h⟩ := h
      obtain ⟨s15, h⟩ := h
      with_reducible refine w_lc_10 (y_it (fun _ hQ => e_v9 hQ) (f := D.int) (xs := back) hdL (y_lcF (f := D.int) (fun (i2 : Int) => ((span % plan.1) + 1) < (gi wish i2)) s11 (fun i2 hx_2 A Q hq1_ hq2_ => g_n10 ((tt_cmp (p := ((span % plan.1) + 1) < (gi wish i2)) (fun _ hQ => e_op (e_op (e_v2 (e_v10 (y_ixS hd_wish (s14 i2 hx_2) (e_op (e_op (e_cb (a_cons (e_v1 (a_nil (o_int (e_v3 (y_mod (s15 i2 hx_2) (e_c (o_add (o_gt hQ)))))))))))))))))) _ fun b hb => w_ifB hb (fun hp2 => (e_v10 (hq1_ hp2))) hq2_)) ?_))
      refine gen_d11 (eL D.int) h ?_; clear h; intro behind h
      with_reducible refine w_seq ?_
      obtain ⟨s16, h⟩ := h
      with_reducible refine w_ifT (p := (plan.2.1 * (mx 0 (j - 1))) < (behind.length : Int)) (tt_cmp (p := (plan.2.1 * (mx 0 (j - 1))) < (behind.length : Int)) (fun _ hQ => e_op (e_cb (a_cons (e_v11 (a_nil (y_lenL  (e_op (e_op (e_v0 (e_c (y_l1 (e_cb (a_cons (e_c (a_cons (e_op (e_v4 (e_c (o_sub (a_nil (y_max (y_mul s16 (o_gt hQ)))))))))))))))))))))))) (fun c => ?_) (fun c => ?_)
      · replace h := h.1 c
        with_reducible refine w_ret ?_
        obtain ⟨s17, h⟩ := h
        with_reducible refine e_tup (a_cons (e_c (a_cons (e_cb (a_cons (e_v11 (a_nil (y_lenL  (a_cons (e_op (e_op (e_v0 (e_c (y_l1 (e_cb (a_cons (e_c (a_cons (e_op (e_v4 (e_c (o_sub (a_nil (y_max (y_mul s17 (a_nil (And.intro ln3 ?_)))))))))))))))))))))))))))
        exact hq1 (("lasts" : Str), (behind.length : Int), (plan.2.1 * (mx 0 (j - 1)))) h
      · replace h := h.2 c
        with_reducible refine w_next (w_ret (e_tup (a_cons (e_c (a_cons (e_cb (a_cons (e_v2 (a_nil (y_list (f := D.int) (xs := wish) hd_wish (a_nil (And.intro ln2 ?_))))))))))))
        exact hq2 (("reached" : Str), wish) h
  · intro c_ k N hn o1 o2 h
    try dsimp only at h
    with_reducible refine g_n6 (w_seq (w_as7 ?_))
    obtain ⟨s18, h⟩ := h
    with_reducible refine e_cb (a_cons (w_lc_8 (y_it (fun _ hQ => e_v2 hQ) (f := D.int) (xs := wish) hd_wish (y_lcF (f := D.int) (fun (x : Int) => x = c_) s18 (fun x hx_3 A Q hq1_ hq2_ => g_n8 ((tt_cmp (p := x = c_) (fun _ hQ => e_op (e_v8 (e_v6 (o_eq hQ))))) _ fun b hb => w_ifB hb (fun hp3 => (e_v8 (hq1_ hp3))) hq2_)) (a_nil (y_lenL  ?_))))))
    refine gen_d7 D.int h ?_; clear h; intro have_ h
    obtain ⟨s19, h⟩ := h
    with_reducible refine w_ifT (p := (gi spots c_) < have_) (tt_cmp (p := (gi spots c_) < have_) (fun _ hQ => e_op (e_v7 (e_op (e_v5 (e_v6 (y_ixL s19 (o_gt hQ)))))))) (fun c => ?_) (fun c => ?_)
    · replace h := h.1 c
      with_reducible refine w_ret ?_
      obtain ⟨s20, h⟩ := h
      with_reducible refine e_tup (a_cons (e_c (a_cons (e_v6 (a_cons (e_v7 (a_cons (e_op (e_v5 (e_v6 (y_ixL s20 (a_nil (And.intro ln4 ?_)))))))))))))
      exact hq0 (("crowd" : Str), c_, have_, (gi spots c_)) h
    · replace h := h.2 c
      with_reducible refine w_next ?_
      exact hn _ _ h

noncomputable def t_check_days (days : Int) (Q : Unit → Prop) (X : Exn → Prop) : Prop :=
  ifP (¬ ((0 ≤ days ∧ days ≤ 1000000000000000000000000000000))) (X ⟨21, [(D.int days), (D.str ("days" : Str))]⟩) (Q ())

theorem tr_check_days {days : Int}  {Qt : Unit → Prop} {Xt : Exn → Prop} {P : D → Prop} {P2 : Exn → Prop}  (h : t_check_days days Qt Xt) (hq : ∀ r, Qt r → P (eN r)) (hx : ∀ e, Xt e → P2 e) : w_check_days [(D.int days)] P P2 := by
  unfold t_check_days at h
  unfold w_check_days wpB
  show b_check_days _ [some (.d (D.int days))]
  unfold b_check_days
  with_reducible refine w_ifT (p := ¬ ((0 ≤ days ∧ days ≤ 1000000000000000000000000000000))) (tt_not (p := (0 ≤ days ∧ days ≤ 1000000000000000000000000000000)) (tt_cmp (p := (0 ≤ days ∧ days ≤ 1000000000000000000000000000000)) (fun _ hQ => e_chainT (p := 0 ≤ days) (p' := days ≤ 1000000000000000000000000000000) (fun _ hQ => e_c hQ) (fun _ hQ => e_v0 hQ) (fun _ => (fun _ hQ => e_c hQ)) (fun _ hQ => o_le hQ) (fun _ hQ => o_le hQ) hQ))) (fun c => ?_) (fun c => ?_)
  · replace h := h.1 c
    with_reducible refine w_raise (a_cons (e_v0 (a_cons (e_c (a_nil ?_)))))
    refine ⟨rfl, (fun z => by cases z), ?_⟩
    exact (hx) _ h
  · replace h := h.2 c
    with_reducible refine w_next ?_
    exact hq () h

noncomputable def g_Depot_size (self : Dp) : Int :=
  (self.f.length : Int)

theorem pf_Depot_size {self : Dp}  {Q : D → Prop} {Q2 : Exn → Prop}  (h : Q (D.int (g_Depot_size self))) : w_Depot_size [(eDp self)] Q Q2 := by
  unfold g_Depot_size at h
  unfold w_Depot_size wpB
  show b_Depot_size _ [some (.d (eDp self))]
  unfold b_Depot_size
  with_reducible refine w_ret (e_cb (a_cons (e_fld (e_v0 (y_fd0_2_02 (a_nil (y_lenT  ?_)))))))
  exact h

noncomputable def t_check_weekdays (depot : Dp) (row : (List Int)) (least : Int) (Q : Unit → Prop) (X : Exn → Prop) : Prop :=
  ifP ((row.length : Int) ≠ (g_Depot_size depot)) (X ⟨27, [(D.int (row.length : Int)), (D.str ("length" : Str))]⟩) (forK (en 0 row) (fun (r1 : (Int × Int)) (k : Prop) => ifP (¬ ((least ≤ r1.2 ∧ r1.2 ≤ depot.p))) (X ⟨27, [(D.int r1.1), (D.str ("weekday" : Str))]⟩) (k)) (Q ()))

theorem tr_check_weekdays {depot : Dp} {row : (List Int)} {least : Int} {d_row : D} {Qt : Unit → Prop} {Xt : Exn → Prop} {P : D → Prop} {P2 : Exn → Prop} (hd_row : itemsD d_row = some (List.map D.int row)) (h : t_check_weekdays depot row least Qt Xt) (hq : ∀ r, Qt r → P (eN r)) (hx : ∀ e, Xt e → P2 e) : w_check_weekdays [(eDp depot), d_row, (D.int least)] P P2 := by
  unfold t_check_weekdays at h
  unfold w_check_weekdays wpB
  show b_check_weekdays _ [some (.d (eDp depot)), some (.d d_row), some (.d (D.int least)), none, none]
  unfold b_check_weekdays
  with_reducible refine w_seq ?_
  with_reducible refine w_ifT (p := (row.length : Int) ≠ (g_Depot_size depot)) (tt_cmp (p := (row.length : Int) ≠ (g_Depot_size depot)) (fun _ hQ => e_op (e_cb (a_cons (e_v1 (a_nil (y_lenS hd_row (e_prop (e_v0 (k_obj (pf_Depot_size (self := depot)   (o_ne hQ)))))))))))) (fun c => ?_) (fun c => ?_)
  · replace h := h.1 c
    with_reducible refine w_raise (a_cons (e_cb (a_cons (e_v1 (a_nil (y_lenS hd_row (a_cons (e_c (a_nil ?_)))))))))
    refine ⟨rfl, (fun z => by cases z), ?_⟩
    exact (hx) _ h
  · replace h := h.2 c
    with_reducible refine w_next (w_for (y_en (fun _ hQ => e_v1 hQ) (f := D.int) (xs := row) hd_row ?_))
    refine w_forK (eP2 D.int D.int) (fun (k : Prop) N => ∀ (o1 o2 : Option S), k → N [some (.d (eDp depot)), some (.d d_row), some (.d (D.int least)), o1, o2]) ?_ ?_  _ _ h <;> clear h
    · intro o1 o2 h
      try dsimp only at h
      exact hq () h
    · intro r1 k N hn o1 o2 h
      try dsimp only at h
      with_reducible refine y_g2 (g_cons (g_n3 (g_cons (g_n4 (g_nil ?_)))))
      with_reducible refine w_ifT (p := ¬ ((least ≤ r1.2 ∧ r1.2 ≤ depot.p))) (tt_not (p := (least ≤ r1.2 ∧ r1.2 ≤ depot.p)) (tt_cmp (p := (least ≤ r1.2 ∧ r1.2 ≤ depot.p)) (fun _ hQ => e_chainT (p := least ≤ r1.2) (p' := r1.2 ≤ depot.p) (fun _ hQ => e_v2 hQ) (fun _ hQ => e_v4 hQ) (fun _ => (fun _ hQ => e_fld (e_v0 (y_fd0_0_00 hQ)))) (fun _ hQ => o_le hQ) (fun _ hQ => o_le hQ) hQ))) (fun c => ?_) (fun c => ?_)
      · replace h := h.1 c
        with_reducible refine w_raise (a_cons (e_v3 (a_cons (e_c (a_nil ?_)))))
        refine ⟨rfl, (fun z => by cases z), ?_⟩
        exact (hx) _ h
      · replace h := h.2 c
        with_reducible refine w_next ?_
        exact hn _ _ h

noncomputable def t_check_wish (depot : Dp) (wish : (List Int)) (Q : Unit → Prop) (X : Exn → Prop) : Prop :=
  t_check_weekdays depot wish 0 (fun (r1 : Unit) => Q ()) X

theorem tr_check_wish {depot : Dp} {wish : (List Int)} {d_wish : D} {Qt : Unit → Prop} {Xt : Exn → Prop} {P : D → Prop} {P2 : Exn → Prop} (hd_wish : itemsD d_wish = some (List.map D.int wish)) (h : t_check_wish depot wish Qt Xt) (hq : ∀ r, Qt r → P (eN r)) (hx : ∀ e, Xt e → P2 e) : w_check_wish [(eDp depot), d_wish] P P2 := by
  unfold t_check_wish at h
  unfold w_check_wish wpB
  show b_check_wish _ [some (.d (eDp depot)), some (.d d_wish)]
  unfold b_check_wish
  with_reducible refine w_drop (e_call (a_cons (e_v0 (a_cons (e_v1 (a_cons (e_c (a_nil ?_))))))))
  refine tr_check_weekdays (depot := depot) (row := wish) (least := 0) hd_wish h ?_ hx; clear h; intro r1 h
  exact hq () h

noncomputable def t_Depot_closings (self : Dp) (days : Int) (Q : Int → Prop) (X : Exn → Prop) : Prop :=
  t_check_days days (fun (r1 : Unit) => divT self.p ∧ Q (days / self.p)) X

theorem tr_Depot_closings {self : Dp} {days : Int}  {Qt : Int → Prop} {Xt : Exn → Prop} {P : D → Prop} {P2 : Exn → Prop}  (h : t_Depot_closings self days Qt Xt) (hq : ∀ r, Qt r → P (D.int r)) (hx : ∀ e, Xt e → P2 e) : w_Depot_closings [(eDp self), (D.int days)] P P2 := by
  unfold t_Depot_closings at h
  unfold w_Depot_closings wpB
  show b_Depot_closings _ [some (.d (eDp self)), some (.d (D.int days))]
  unfold b_Depot_closings
  with_reducible refine w_seq (w_drop (e_call (a_cons (e_v1 (a_nil ?_)))))
  refine tr_check_days (days := days)  h ?_ hx; clear h; intro r1 h
  with_reducible refine w_ret ?_
  obtain ⟨s1, h⟩ := h
  with_reducible refine e_op (e_v1 (e_fld (e_v0 (y_fd0_0_00 (y_div s1 ?_)))))
  exact hq (days / self.p) h

noncomputable def t_Depot_weekday (self : Dp) (morning : Int) (Q : Int → Prop) (X : Exn → Prop) : Prop :=
  ifP (morning < 1) (X ⟨21, [(D.int morning), (D.str ("morning" : Str))]⟩) (0 < self.p ∧ Q (((morning - 1) % self.p) + 1))

theorem tr_Depot_weekday {self : Dp} {morning : Int}  {Qt : Int → Prop} {Xt : Exn → Prop} {P : D → Prop} {P2 : Exn → Prop}  (h : t_Depot_weekday self morning Qt Xt) (hq : ∀ r, Qt r → P (D.int r)) (hx : ∀ e, Xt e → P2 e) : w_Depot_weekday [(eDp self), (D.int morning)] P P2 := by
  unfold t_Depot_weekday at h
  unfold w_Depot_weekday wpB
  show b_Depot_weekday _ [some (.d (eDp self)), some (.d (D.int morning))]
  unfold b_Depot_weekday
  with_reducible refine w_seq ?_
  with_reducible refine w_ifT (p := morning < 1) (tt_cmp (p := morning < 1) (fun _ hQ => e_op (e_v1 (e_c (o_lt hQ))))) (fun c => ?_) (fun c => ?_)
  · replace h := h.1 c
    with_reducible refine w_raise (a_cons (e_v1 (a_cons (e_c (a_nil ?_)))))
    refine ⟨rfl, (fun z => by cases z), ?_⟩
    exact (hx) _ h
  · replace h := h.2 c
    with_reducible refine w_next (w_ret ?_)
    obtain ⟨s1, h⟩ := h
    with_reducible refine e_op (e_op (e_op (e_v1 (e_c (o_sub (e_fld (e_v0 (y_fd0_0_00 (y_mod s1 (e_c (o_add ?_)))))))))))
    exact hq (((morning - 1) % self.p) + 1) h

noncomputable def t_Depot_last_weekday (self : Dp) (days : Int) (Q : Int → Prop) (X : Exn → Prop) : Prop :=
  t_check_days days (fun (r1 : Unit) => t_Depot_weekday self (days + 1) (fun (r2 : Int) => Q r2) X) X

theorem tr_Depot_last_weekday {self : Dp} {days : Int}  {Qt : Int → Prop} {Xt : Exn → Prop} {P : D → Prop} {P2 : Exn → Prop}  (h : t_Depot_last_weekday self days Qt Xt) (hq : ∀ r, Qt r → P (D.int r)) (hx : ∀ e, Xt e → P2 e) : w_Depot_last_weekday [(eDp self), (D.int days)] P P2 := by
  unfold t_Depot_last_weekday at h
  unfold w_Depot_last_weekday wpB
  show b_Depot_last_weekday _ [some (.d (eDp self)), some (.d (D.int days))]
  unfold b_Depot_last_weekday
  with_reducible refine w_seq (w_drop (e_call (a_cons (e_v1 (a_nil ?_)))))
  refine tr_check_days (days := days)  h ?_ hx; clear h; intro r1 h
  with_reducible refine w_ret (e_meth (e_v0 (k_obj (a_cons (e_op (e_v1 (e_c (o_add (a_nil ?_)))))))))
  refine tr_Depot_weekday (self := self) (morning := (days + 1))  h ?_ hx; clear h; intro r2 h
  exact hq r2 h

noncomputable def g_Depot_places (self : Dp) : (List Int) :=
  (List.map (fun (weekday : Int) => (((self.f.count weekday : Nat) : Int) - (if weekday = 1 then self.q else 0))) (rg 1 (self.p + 1)))

noncomputable def sd_Depot_places (self : Dp) : Prop :=
  ((b62 1 ∧ b62 (self.p + 1))) ∧ (((rg 1 (self.p + 1)).length ≤ szl))

theorem pf_Depot_places {self : Dp}  {Q : D → Prop} {Q2 : Exn → Prop}  (hs : sd_Depot_places self) (h : Q ((eT D.int) (g_Depot_places self))) : w_Depot_places [(eDp self)] Q Q2 := by
  unfold g_Depot_places at h
  unfold sd_Depot_places at hs
  obtain ⟨hs0, hs1⟩ := hs
  unfold w_Depot_places wpB
  show b_Depot_places _ [some (.d (eDp self)), none]
  unfold b_Depot_places
  with_reducible refine w_ret ?_
  have s1 := hs0
  have s2 := hs1
  with_reducible refine e_cb (a_cons (w_lc_1 (y_rg2 (fun _ hQ => e_c hQ) (fun _ hQ => e_op (e_fld (e_v0 (y_fd0_0_00 (e_c (o_add hQ)))))) s1 (y_lcM (f := D.int) (g := D.int) (fun (weekday : Int) => (((self.f.count weekday : Nat) : Int) - (if weekday = 1 then self.q else 0))) s2 (fun weekday hx_ _ hQ => g_n1 (e_op (e_cnt (ns := self.f) hdT (fun _ hQ => e_fld (e_v0 (y_fd0_2_02 hQ))) (e_v1 (k_cnt (e_ifT (p := weekday = 1) (f := D.int) (x := self.q) (y := 0) (tt_cmp (p := weekday = 1) (fun _ hQ => e_op (e_v1 (e_c (o_eq hQ))))) (fun hp2 => (fun _ hQ => e_fld (e_v0 (y_fd0_1_01 hQ)))) (fun hp3 => (fun _ hQ => e_c hQ)) (o_sub hQ))))))) (a_nil (y_tuple (f := D.int) (xs := (List.map (fun (weekday : Int) => (((self.f.count weekday : Nat) : Int) - (if weekday = 1 then self.q else 0))) (rg 1 (self.p + 1)))) hdL ?_))))))
  exact h

noncomputable def t_Depot_due_places (self : Dp) (days : Int) (Q : (List Int) → Prop) (X : Exn → Prop) : Prop :=
  t_Depot_last_weekday self days (fun (last : Int) => sd_Depot_places self ∧ ((en 1 (g_Depot_places self)).length ≤ szl) ∧ Q (List.map (fun (r1 : (Int × Int)) => (r1.2 + (if r1.1 = last then self.q else 0))) (en 1 (g_Depot_places self)))) X

theorem tr_Depot_due_places {self : Dp} {days : Int}  {Qt : (List Int) → Prop} {Xt : Exn → Prop} {P : D → Prop} {P2 : Exn → Prop}  (h : t_Depot_due_places self days Qt Xt) (hq : ∀ r, Qt r → P ((eT D.int) r)) (hx : ∀ e, Xt e → P2 e) : w_Depot_due_places [(eDp self), (D.int days)] P P2 := by
  unfold t_Depot_due_places at h
  unfold w_Depot_due_places wpB
  show b_Depot_due_places _ [some (.d (eDp self)), some (.d (D.int days)), none, none, none]
  unfold b_Depot_due_places
  with_reducible refine w_seq (w_as2 (e_meth (e_v0 (k_obj (a_cons (e_v1 (a_nil ?_)))))))
  refine tr_Depot_last_weekday (self := self) (days := days)  h ?_ hx; clear h; intro last h
  with_reducible refine w_ret ?_
  obtain ⟨s1, h⟩ := h
  obtain ⟨s2, h⟩ := h
  with_reducible refine e_cb (a_cons (w_lc_3_4 (y_en (fun _ hQ => e_prop (e_v0 (k_obj (pf_Depot_places (self := self)  s1 hQ)))) (f := D.int) (xs := (g_Depot_places self)) hdT (y_lcM (f := (eP2 D.int D.int)) (g := D.int) (fun (r1 : (Int × Int)) => (r1.2 + (if r1.1 = last then self.q else 0))) s2 (fun r1 hx_ _ hQ => y_g2 (g_cons (g_n3 (g_cons (g_n4 (g_nil (e_op (e_v4 (e_ifT (p := r1.1 = last) (f := D.int) (x := self.q) (y := 0) (tt_cmp (p := r1.1 = last) (fun _ hQ => e_op (e_v3 (e_v2 (o_eq hQ))))) (fun hp2 => (fun _ hQ => e_fld (e_v0 (y_fd0_1_01 hQ)))) (fun hp3 => (fun _ hQ => e_c hQ)) (o_add hQ)))))))))) (a_nil (y_tuple (f := D.int) (xs := (List.map (fun (r1 : (Int × Int)) => (r1.2 + (if r1.1 = last then self.q else 0))) (en 1 (g_Depot_places self)))) hdL ?_))))))
  exact hq (List.map (fun (r1 : (Int × Int)) => (r1.2 + (if r1.1 = last then self.q else 0))) (en 1 (g_Depot_places self))) h

noncomputable def t_crowd_reasons (depot : Dp) (days : Int) (weekdays : (List Int)) (Q : (List (Str × Int × Int × Int)) → Prop) (X : Exn → Prop) : Prop :=
  t_Depot_due_places depot days (fun (r1 : (List Int)) => forK (en 1 r1) (fun (r2 : (Int × Int)) (k : (List (Str × Int × Int × Int)) → Prop) (reasons : (List (Str × Int × Int × Int))) => bnd ((weekdays.count r2.1 : Nat) : Int) (fun (told : Int) => ifP (r2.2 < told) ((reasons.length < szl) ∧ k (reasons ++ [(("crowd" : Str), r2.1, told, r2.2)])) (k reasons))) (fun (reasons : (List (Str × Int × Int × Int))) => Q reasons) ([] : List (Str × Int × Int × Int))) X

theorem tr_crowd_reasons {depot : Dp} {days : Int} {weekdays : (List Int)} {d_weekdays : D} {Qt : (List (Str × Int × Int × Int)) → Prop} {Xt : Exn → Prop} {P : D → Prop} {P2 : Exn → Prop} (hd_weekdays : itemsD d_weekdays = some (List.map D.int weekdays)) (h : t_crowd_reasons depot days weekdays Qt Xt) (hq : ∀ r, Qt r → P ((eL (eP4 D.str D.int D.int D.int)) r)) (hx : ∀ e, Xt e → P2 e) : w_crowd_reasons [(eDp depot), (D.int days), d_weekdays] P P2 := by
  unfold t_crowd_reasons at h
  unfold w_crowd_reasons wpB
  show b_crowd_reasons _ [some (.d (eDp depot)), some (.d (D.int days)), some (.d d_weekdays), none, none, none, none]
  unfold b_crowd_reasons
  with_reducible refine w_seq (w_ao3 (e_lstK (a_nil (y_mk0 (f := (eP4 D.str D.int D.int D.int))  (k_ao (w_seq (w_for (l_enK (e_meth (e_v0 (k_obj (a_cons (e_v1 (a_nil ?_))))))))))))))
  refine tr_Depot_due_places (self := depot) (days := days)  h ?_ hx; clear h; intro r1 h
  with_reducible refine k_en (f := D.int) (xs := r1) hdT ?_
  refine w_forK (eP2 D.int D.int) (fun (k : (List (Str × Int × Int × Int)) → Prop) N => ∀ (reasons : (List (Str × Int × Int × Int))) (o1 o2 o3 : Option S), k reasons → N [some (.d (eDp depot)), some (.d (D.int days)), some (.d d_weekdays), some (.own none (List.map (eP4 D.str D.int D.int D.int) reasons)), o1, o2, o3]) ?_ ?_ ([] : List (Str × Int × Int × Int)) _ _ _ h <;> clear h
  · intro reasons o1 o2 o3 h
    try dsimp only at h
    with_reducible refine w_fz3 (w_ret (e_v3 ?_))
    exact hq reasons h
  · intro r2 k N hn reasons o1 o2 o3 h
    try dsimp only at h
    with_reducible refine y_g2 (g_cons (g_n4 (g_cons (g_n5 (g_nil (w_seq (w_as6 (e_cnt (ns := weekdays) hd_weekdays (fun _ hQ => e_v2 hQ) (e_v4 (k_cnt ?_))))))))))
    refine gen_d6 D.int h ?_; clear h; intro told h
    with_reducible refine w_ifT (p := r2.2 < told) (tt_cmp (p := r2.2 < told) (fun _ hQ => e_op (e_v6 (e_v5 (o_gt hQ))))) (fun c => ?_) (fun c => ?_)
    · replace h := h.1 c
      with_reducible refine w_ap3 (e_tup (a_cons (e_c (a_cons (e_v4 (a_cons (e_v6 (a_cons (e_v5 (a_nil (And.intro ln4 ?_)))))))))))
      obtain ⟨s1, h⟩ := h
      with_reducible refine y_app (f := (eP4 D.str D.int D.int D.int)) (xs := reasons) (y := (("crowd" : Str), r2.1, told, r2.2)) s1 ?_
      exact hn (reasons ++ [(("crowd" : Str), r2.1, told, r2.2)]) _ _ _ h
    · replace h := h.2 c
      with_reducible refine w_next ?_
      exact hn reasons _ _ _ h

noncomputable def g_back_weekdays (depot : Dp) (wish : (List Int)) : (List Int) :=
  (List.map (fun (r1 : (Int × Int)) => r1.1) ((wish.zip depot.f).filter fun (r1 : (Int × Int)) => decide ((0 < r1.1 ∧ r1.1 < r1.2))))

noncomputable def sd_back_weekdays (depot : Dp) (wish : (List Int)) : Prop :=
  (((wish.zip depot.f).length ≤ szl))

theorem pf_back_weekdays {depot : Dp} {wish : (List Int)} {d_wish : D} {Q : D → Prop} {Q2 : Exn → Prop} (hd_wish : itemsD d_wish = some (List.map D.int wish)) (hs : sd_back_weekdays depot wish) (h : Q ((eL D.int) (g_back_weekdays depot wish))) : w_back_weekdays [(eDp depot), d_wish] Q Q2 := by
  unfold g_back_weekdays at h
  unfold sd_back_weekdays at hs
  have hs0 := hs
  unfold w_back_weekdays wpB
  show b_back_weekdays _ [some (.d (eDp depot)), some (.d d_wish), none, none]
  unfold b_back_weekdays
  with_reducible refine w_ret ?_
  have s1 := hs0
  with_reducible refine w_lc_2_3 (y_zip (f := D.int) (xs := wish) (g := D.int) (ys := depot.f) (fun _ hQ => e_v1 hQ) hd_wish (fun _ hQ => e_fld (e_v0 (y_fd0_2_02 hQ))) hdT (y_lcT (f := (eP2 D.int D.int)) (g := D.int) (fun (r1 : (Int × Int)) => (0 < r1.1 ∧ r1.1 < r1.2)) (fun (r1 : (Int × Int)) => r1.1) s1 (fun r1 hx_ A Q hq1_ hq2_ => y_g2 (g_cons (g_n2 (g_cons (g_n3 (g_nil ((tt_cmp (p := (0 < r1.1 ∧ r1.1 < r1.2)) (fun _ hQ => e_chainT (p := 0 < r1.1) (p' := r1.1 < r1.2) (fun _ hQ => e_c hQ) (fun _ hQ => e_v2 hQ) (fun _ => (fun _ hQ => e_v3 hQ)) (fun _ hQ => o_lt hQ) (fun _ hQ => o_lt hQ) hQ)) _ fun b hb => w_ifB hb (fun hp => (e_v2 (hq1_ hp))) hq2_))))))) ?_))
  exact h

noncomputable def t_left_places (depot : Dp) (days : Int) (weekdays : (List Int)) (Q : (List Int) → Prop) (X : Exn → Prop) : Prop :=
  t_Depot_due_places depot days (fun (r1 : (List Int)) => ((en 1 r1).length ≤ szl) ∧ lcK (fun (r2 : (Int × Int)) (k : Option Int → Prop) => k (some (r2.2 - ((weekdays.count r2.1 : Nat) : Int)))) (fun (es : List Int) => Q es) (en 1 r1) []) X

theorem tr_left_places {depot : Dp} {days : Int} {weekdays : (List Int)} {d_weekdays : D} {Qt : (List Int) → Prop} {Xt : Exn → Prop} {P : D → Prop} {P2 : Exn → Prop} (hd_weekdays : itemsD d_weekdays = some (List.map D.int weekdays)) (h : t_left_places depot days weekdays Qt Xt) (hq : ∀ r, Qt r → P ((eL D.int) r)) (hx : ∀ e, Xt e → P2 e) : w_left_places [(eDp depot), (D.int days), d_weekdays] P P2 := by
  unfold t_left_places at h
  unfold w_left_places wpB
  show b_left_places _ [some (.d (eDp depot)), some (.d (D.int days)), some (.d d_weekdays), none, none]
  unfold b_left_places
  with_reducible refine w_ret (w_lc_3_4 (l_enK (e_meth (e_v0 (k_obj (a_cons (e_v1 (a_nil ?_))))))))
  refine tr_Depot_due_places (self := depot) (days := days)  h ?_ hx; clear h; intro r1 h
  with_reducible refine k_en (f := D.int) (xs := r1) hdT ?_
  obtain ⟨s1, h⟩ := h
  refine y_lcK (f := (eP2 D.int D.int)) (g := D.int) s1 h ?_ ?_ <;> clear h
  · intro es h
    exact hq es h
  · intro r2 k A Qe hk1 hk2 h
    try dsimp only at h
    with_reducible refine y_g2 (g_cons (g_n3 (g_cons (g_n4 (g_nil (t_yes (w_tt (e_op (e_v4 (e_cnt (ns := weekdays) hd_weekdays (fun _ hQ => e_v2 hQ) (e_v3 (k_cnt (o_sub ?_)))))))))))))
    exact hk1 (r2.2 - ((weekdays.count r2.1 : Nat) : Int)) h

noncomputable def g_free_firsts (depot : Dp) (wish : (List Int)) : (List Int) :=
  (List.map (fun (r1 : (Int × Int)) => r1.2) ((wish.zip depot.f).filter fun (r1 : (Int × Int)) => decide (r1.1 = 0)))

noncomputable def sd_free_firsts (depot : Dp) (wish : (List Int)) : Prop :=
  (((wish.zip depot.f).length ≤ szl))

theorem pf_free_firsts {depot : Dp} {wish : (List Int)} {d_wish : D} {Q : D → Prop} {Q2 : Exn → Prop} (hd_wish : itemsD d_wish = some (List.map D.int wish)) (hs : sd_free_firsts depot wish) (h : Q ((eL D.int) (g_free_firsts depot wish))) : w_free_firsts [(eDp depot), d_wish] Q Q2 := by
  unfold g_free_firsts at h
  unfold sd_free_firsts at hs
  have hs0 := hs
  unfold w_free_firsts wpB
  show b_free_firsts _ [some (.d (eDp depot)), some (.d d_wish), none, none]
  unfold b_free_firsts
  with_reducible refine w_ret ?_
  have s1 := hs0
  with_reducible refine w_lc_2_3 (y_zip (f := D.int) (xs := wish) (g := D.int) (ys := depot.f) (fun _ hQ => e_v1 hQ) hd_wish (fun _ hQ => e_fld (e_v0 (y_fd0_2_02 hQ))) hdT (y_lcT (f := (eP2 D.int D.int)) (g := D.int) (fun (r1 : (Int × Int)) => r1.1 = 0) (fun (r1 : (Int × Int)) => r1.2) s1 (fun r1 hx_ A Q hq1_ hq2_ => y_g2 (g_cons (g_n2 (g_cons (g_n3 (g_nil ((tt_cmp (p := r1.1 = 0) (fun _ hQ => e_op (e_v2 (e_c (o_eq hQ))))) _ fun b hb => w_ifB hb (fun hp => (e_v3 (hq1_ hp))) hq2_))))))) ?_))
  exact h

noncomputable def g_surplus (places : (List Int)) (firsts : (List Int)) (low : Int) (high : Int) : Int :=
  (((slM places low high).sum) - ((firsts.filter fun (first : Int) => decide (first ≤ high)).length : Int))

noncomputable def sd_surplus (places : (List Int)) (firsts : (List Int)) (low : Int) (high : Int) : Prop :=
  ((0 ≤ low ∧ low ≤ places.length ∧ 0 ≤ high ∧ high ≤ places.length)) ∧ ((firsts.length ≤ szl))

theorem pf_surplus {places : (List Int)} {firsts : (List Int)} {low : Int} {high : Int} {d_firsts : D} {Q : D → Prop} {Q2 : Exn → Prop} (hd_firsts : itemsD d_firsts = some (List.map D.int firsts)) (hs : sd_surplus places firsts low high) (h : Q (D.int (g_surplus places firsts low high))) : w_surplus [(D.lst (List.map D.int places)), d_firsts, (D.int low), (D.int high)] Q Q2 := by
  unfold g_surplus at h
  unfold sd_surplus at hs
  obtain ⟨hs0, hs1⟩ := hs
  unfold w_surplus wpB
  show b_surplus _ [some (.d (D.lst (List.map D.int places))), some (.d d_firsts), some (.d (D.int low)), some (.d (D.int high)), none]
  unfold b_surplus
  with_reducible refine w_ret ?_
  have s1 := hs0
  have s2 := hs1
  with_reducible refine e_op (e_cb (a_cons (e_sl (e_v0 (e_part (e_v2 (k_intO (e_part (e_v3 (k_intO (y_slM s1 (a_nil (y_sum (ns := (slM places low high)) hdL (e_cb (a_cons (w_lc_4 (y_it (fun _ hQ => e_v1 hQ) (f := D.int) (xs := firsts) hd_firsts (y_lcF (f := D.int) (fun (first : Int) => first ≤ high) s2 (fun first hx_ A Q hq1_ hq2_ => g_n4 ((tt_cmp (p := first ≤ high) (fun _ hQ => e_op (e_v4 (e_v3 (o_le hQ))))) _ fun b hb => w_ifB hb (fun hp => (e_v4 (hq1_ hp))) hq2_)) (a_nil (y_lenL  (o_sub ?_)))))))))))))))))))))
  exact h

noncomputable def g_back_needs (places : (List Int)) (firsts : (List Int)) (told : Int) : (List (Int × Int)) :=
  (List.map (fun (r1 : Int) => (r1, (told + (g_surplus places firsts 0 r1)))) (rg 0 ((places.length : Int) + 1)))

noncomputable def sd_back_needs (places : (List Int)) (firsts : (List Int)) (told : Int) : Prop :=
  (b62 ((places.length : Int) + 1)) ∧ (((rg 0 ((places.length : Int) + 1)).length ≤ szl)) ∧ ((∀ r1 ∈ (rg 0 ((places.length : Int) + 1)), sd_surplus places firsts 0 r1))

theorem pf_back_needs {places : (List Int)} {firsts : (List Int)} {told : Int} {d_firsts : D} {Q : D → Prop} {Q2 : Exn → Prop} (hd_firsts : itemsD d_firsts = some (List.map D.int firsts)) (hs : sd_back_needs places firsts told) (h : Q ((eL (eP2 D.int D.int)) (g_back_needs places firsts told))) : w_back_needs [(D.lst (List.map D.int places)), d_firsts, (D.int told)] Q Q2 := by
  unfold g_back_needs at h
  unfold sd_back_needs at hs
  obtain ⟨hs0, hs1, hs2⟩ := hs
  unfold w_back_needs wpB
  show b_back_needs _ [some (.d (D.lst (List.map D.int places))), some (.d d_firsts), some (.d (D.int told)), none]
  unfold b_back_needs
  with_reducible refine w_ret ?_
  have s1 := hs0
  have s2 := hs1
  have s4 := hs2
  with_reducible refine w_lc_3 (y_rg1 (fun _ hQ => e_op (e_cb (a_cons (e_v0 (a_nil (y_lenL  (e_c (o_add hQ)))))))) s1 (y_lcM (f := D.int) (g := (eP2 D.int D.int)) (fun (r1 : Int) => (r1, (told + (g_surplus places firsts 0 r1)))) s2 (fun r1 hx_ _ hQ => g_n3 (e_tup (a_cons (e_v3 (a_cons (e_op (e_v2 (e_call (a_cons (e_v0 (a_cons (e_v1 (a_cons (e_c (a_cons (e_v3 (a_nil (pf_surplus (places := places) (firsts := firsts) (low := 0) (high := r1) hd_firsts (s4 r1 hx_) (o_add (a_nil (And.intro ln2 hQ))))))))))))))))))))) ?_))
  exact h

noncomputable def t_closing_needs (depot : Dp) (days : Int) (wish : (List Int)) (Q : (List (Int × Int)) → Prop) (X : Exn → Prop) : Prop :=
  sd_back_weekdays depot wish ∧ bnd (g_back_weekdays depot wish) (fun (backs : (List Int)) => t_left_places depot days wish (fun (r1 : (List Int)) => sd_free_firsts depot wish ∧ sd_back_needs r1 (g_free_firsts depot wish) (backs.length : Int) ∧ Q (g_back_needs r1 (g_free_firsts depot wish) (backs.length : Int))) X)

theorem tr_closing_needs {depot : Dp} {days : Int} {wish : (List Int)} {d_wish : D} {Qt : (List (Int × Int)) → Prop} {Xt : Exn → Prop} {P : D → Prop} {P2 : Exn → Prop} (hd_wish : itemsD d_wish = some (List.map D.int wish)) (h : t_closing_needs depot days wish Qt Xt) (hq : ∀ r, Qt r → P ((eL (eP2 D.int D.int)) r)) (hx : ∀ e, Xt e → P2 e) : w_closing_needs [(eDp depot), (D.int days), d_wish] P P2 := by
  unfold t_closing_needs at h
  unfold w_closing_needs wpB
  show b_closing_needs _ [some (.d (eDp depot)), some (.d (D.int days)), some (.d d_wish), none]
  unfold b_closing_needs
  with_reducible refine w_seq (w_as3 ?_)
  obtain ⟨s1, h⟩ := h
  with_reducible refine e_call (a_cons (e_v0 (a_cons (e_v2 (a_nil (pf_back_weekdays (depot := depot) (wish := wish) hd_wish s1 ?_))))))
  refine gen_d3 (eL D.int) h ?_; clear h; intro backs h
  with_reducible refine w_ret (e_call (a_cons (e_call (a_cons (e_v0 (a_cons (e_v1 (a_cons (e_v2 (a_nil ?_))))))))))
  refine tr_left_places (depot := depot) (days := days) (weekdays := wish) hd_wish h ?_ hx; clear h; intro r1 h
  with_reducible refine a_cons ?_
  obtain ⟨s2, h⟩ := h
  with_reducible refine e_call (a_cons (e_v0 (a_cons (e_v2 (a_nil (pf_free_firsts (depot := depot) (wish := wish) hd_wish s2 (a_cons (e_cb (a_cons (e_v3 (a_nil (y_lenL  (a_nil ?_)))))))))))))
  obtain ⟨s3, h⟩ := h
  with_reducible refine pf_back_needs (places := r1) (firsts := (g_free_firsts depot wish)) (told := (backs.length : Int)) hdL s3 ?_
  exact hq (g_back_needs r1 (g_free_firsts depot wish) (backs.length : Int)) h

noncomputable def g_need_reasons (word : Str) (needs : (List (Int × Int))) (carried : Int) : (List (Str × Int × Int × Int)) :=
  (List.map (fun (r1 : (Int × Int)) => (word, r1.1, r1.2, carried)) (needs.filter fun (r1 : (Int × Int)) => decide (carried < r1.2)))

noncomputable def sd_need_reasons (word : Str) (needs : (List (Int × Int))) (carried : Int) : Prop :=
  ((needs.length ≤ szl))

theorem pf_need_reasons {word : Str} {needs : (List (Int × Int))} {carried : Int} {d_needs : D} {Q : D → Prop} {Q2 : Exn → Prop} (hd_needs : itemsD d_needs = some (List.map (eP2 D.int D.int) needs)) (hs : sd_need_reasons word needs carried) (h : Q ((eL (eP4 D.str D.int D.int D.int)) (g_need_reasons word needs carried))) : w_need_reasons [(D.str word), d_needs, (D.int carried)] Q Q2 := by
  unfold g_need_reasons at h
  unfold sd_need_reasons at hs
  have hs0 := hs
  unfold w_need_reasons wpB
  show b_need_reasons _ [some (.d (D.str word)), some (.d d_needs), some (.d (D.int carried)), none, none]
  unfold b_need_reasons
  with_reducible refine w_ret ?_
  have s1 := hs0
  with_reducible refine w_lc_3_4 (y_it (fun _ hQ => e_v1 hQ) (f := (eP2 D.int D.int)) (xs := needs) hd_needs (y_lcT (f := (eP2 D.int D.int)) (g := (eP4 D.str D.int D.int D.int)) (fun (r1 : (Int × Int)) => carried < r1.2) (fun (r1 : (Int × Int)) => (word, r1.1, r1.2, carried)) s1 (fun r1 hx_ A Q hq1_ hq2_ => y_g2 (g_cons (g_n3 (g_cons (g_n4 (g_nil ((tt_cmp (p := carried < r1.2) (fun _ hQ => e_op (e_v4 (e_v2 (o_gt hQ))))) _ fun b hb => w_ifB hb (fun hp => (e_tup (a_cons (e_v0 (a_cons (e_v3 (a_cons (e_v4 (a_cons (e_v2 (a_nil (And.intro ln4 (hq1_ hp))))))))))))) hq2_))))))) ?_))
  exact h

noncomputable def g_last_needs (places : (List Int)) (firsts : (List Int)) (last : Int) (told : Int) : (List (Int × Int)) :=
  (List.map (fun (r1 : Int) => (r1, (told + (mx 0 (g_surplus places firsts last r1))))) (rg last ((places.length : Int) + 1)))

noncomputable def sd_last_needs (places : (List Int)) (firsts : (List Int)) (last : Int) (told : Int) : Prop :=
  ((b62 last ∧ b62 ((places.length : Int) + 1))) ∧ (((rg last ((places.length : Int) + 1)).length ≤ szl)) ∧ ((∀ r1 ∈ (rg last ((places.length : Int) + 1)), sd_surplus places firsts last r1))

theorem pf_last_needs {places : (List Int)} {firsts : (List Int)} {last : Int} {told : Int} {d_firsts : D} {Q : D → Prop} {Q2 : Exn → Prop} (hd_firsts : itemsD d_firsts = some (List.map D.int firsts)) (hs : sd_last_needs places firsts last told) (h : Q ((eL (eP2 D.int D.int)) (g_last_needs places firsts last told))) : w_last_needs [(D.lst (List.map D.int places)), d_firsts, (D.int last), (D.int told)] Q Q2 := by
  unfold g_last_needs at h
  unfold sd_last_needs at hs
  obtain ⟨hs0, hs1, hs2⟩ := hs
  unfold w_last_needs wpB
  show b_last_needs _ [some (.d (D.lst (List.map D.int places))), some (.d d_firsts), some (.d (D.int last)), some (.d (D.int told)), none]
  unfold b_last_needs
  with_reducible refine w_ret ?_
  have s1 := hs0
  have s2 := hs1
  have s4 := hs2
  with_reducible refine w_lc_4 (y_rg2 (fun _ hQ => e_v2 hQ) (fun _ hQ => e_op (e_cb (a_cons (e_v0 (a_nil (y_lenL  (e_c (o_add hQ)))))))) s1 (y_lcM (f := D.int) (g := (eP2 D.int D.int)) (fun (r1 : Int) => (r1, (told + (mx 0 (g_surplus places firsts last r1))))) s2 (fun r1 hx_ _ hQ => g_n4 (e_tup (a_cons (e_v4 (a_cons (e_op (e_v3 (e_cb (a_cons (e_c (a_cons (e_call (a_cons (e_v0 (a_cons (e_v1 (a_cons (e_v2 (a_cons (e_v4 (a_nil (pf_surplus (places := places) (firsts := firsts) (low := last) (high := r1) hd_firsts (s4 r1 hx_) (a_nil (y_max (o_add (a_nil (And.intro ln2 hQ))))))))))))))))))))))))))) ?_))
  exact h

noncomputable def t_late_needs (depot : Dp) (days : Int) (wish : (List Int)) (Q : (List (Int × Int)) → Prop) (X : Exn → Prop) : Prop :=
  t_Depot_last_weekday depot days (fun (last : Int) => sd_back_weekdays depot wish ∧ ((g_back_weekdays depot wish).length ≤ szl) ∧ bnd ((g_back_weekdays depot wish).filter fun (weekday : Int) => decide (last < weekday)) (fun (backs : (List Int)) => t_left_places depot days wish (fun (r1 : (List Int)) => sd_free_firsts depot wish ∧ sd_last_needs r1 (g_free_firsts depot wish) last (backs.length : Int) ∧ Q (g_last_needs r1 (g_free_firsts depot wish) last (backs.length : Int))) X)) X

theorem tr_late_needs {depot : Dp} {days : Int} {wish : (List Int)} {d_wish : D} {Qt : (List (Int × Int)) → Prop} {Xt : Exn → Prop} {P : D → Prop} {P2 : Exn → Prop} (hd_wish : itemsD d_wish = some (List.map D.int wish)) (h : t_late_needs depot days wish Qt Xt) (hq : ∀ r, Qt r → P ((eL (eP2 D.int D.int)) r)) (hx : ∀ e, Xt e → P2 e) : w_late_needs [(eDp depot), (D.int days), d_wish] P P2 := by
  unfold t_late_needs at h
  unfold w_late_needs wpB
  show b_late_needs _ [some (.d (eDp depot)), some (.d (D.int days)), some (.d d_wish), none, none, none]
  unfold b_late_needs
  with_reducible refine w_seq (w_as3 (e_meth (e_v0 (k_obj (a_cons (e_v1 (a_nil ?_)))))))
  refine tr_Depot_last_weekday (self := depot) (days := days)  h ?_ hx; clear h; intro last h
  with_reducible refine w_seq (w_as4 ?_)
  obtain ⟨s1, h⟩ := h
  obtain ⟨s2, h⟩ := h
  with_reducible refine w_lc_5 (y_it (fun _ hQ => e_call (a_cons (e_v0 (a_cons (e_v2 (a_nil (pf_back_weekdays (depot := depot) (wish := wish) hd_wish s1 hQ))))))) (f := D.int) (xs := (g_back_weekdays depot wish)) hdL (y_lcF (f := D.int) (fun (weekday : Int) => last < weekday) s2 (fun weekday hx_ A Q hq1_ hq2_ => g_n5 ((tt_cmp (p := last < weekday) (fun _ hQ => e_op (e_v5 (e_v3 (o_gt hQ))))) _ fun b hb => w_ifB hb (fun hp => (e_v5 (hq1_ hp))) hq2_)) ?_))
  refine gen_d4 (eL D.int) h ?_; clear h; intro backs h
  with_reducible refine w_ret (e_call (a_cons (e_call (a_cons (e_v0 (a_cons (e_v1 (a_cons (e_v2 (a_nil ?_))))))))))
  refine tr_left_places (depot := depot) (days := days) (weekdays := wish) hd_wish h ?_ hx; clear h; intro r1 h
  with_reducible refine a_cons ?_
  obtain ⟨s3, h⟩ := h
  with_reducible refine e_call (a_cons (e_v0 (a_cons (e_v2 (a_nil (pf_free_firsts (depot := depot) (wish := wish) hd_wish s3 (a_cons (e_v3 (a_cons (e_cb (a_cons (e_v4 (a_nil (y_lenL  (a_nil ?_)))))))))))))))
  obtain ⟨s4, h⟩ := h
  with_reducible refine pf_last_needs (places := r1) (firsts := (g_free_firsts depot wish)) (last := last) (told := (backs.length : Int)) hdL s4 ?_
  exact hq (g_last_needs r1 (g_free_firsts depot wish) last (backs.length : Int)) h

noncomputable def t_wish_reasons (depot : Dp) (days : Int) (wish : (List Int)) (Q : (List (Str × Int × Int × Int)) → Prop) (X : Exn → Prop) : Prop :=
  t_Depot_closings depot days (fun (closings : Int) => t_crowd_reasons depot days wish (fun (r1 : (List (Str × Int × Int × Int))) => t_closing_needs depot days wish (fun (r2 : (List (Int × Int))) => mulT depot.q closings ∧ sd_need_reasons ("closings" : Str) r2 (depot.q * closings) ∧ (r1.length + (g_need_reasons ("closings" : Str) r2 (depot.q * closings)).length ≤ szl) ∧ t_late_needs depot days wish (fun (r4 : (List (Int × Int))) => mulT depot.q (mx 0 (closings - 1)) ∧ sd_need_reasons ("lasts" : Str) r4 (depot.q * (mx 0 (closings - 1))) ∧ ((r1 ++ (g_need_reasons ("closings" : Str) r2 (depot.q * closings))).length + (g_need_reasons ("lasts" : Str) r4 (depot.q * (mx 0 (closings - 1)))).length ≤ szl) ∧ Q ((r1 ++ (g_need_reasons ("closings" : Str) r2 (depot.q * closings))) ++ (g_need_reasons ("lasts" : Str) r4 (depot.q * (mx 0 (closings - 1)))))) X) X) X) X

theorem tr_wish_reasons {depot : Dp} {days : Int} {wish : (List Int)} {d_wish : D} {Qt : (List (Str × Int × Int × Int)) → Prop} {Xt : Exn → Prop} {P : D → Prop} {P2 : Exn → Prop} (hd_wish : itemsD d_wish = some (List.map D.int wish)) (h : t_wish_reasons depot days wish Qt Xt) (hq : ∀ r, Qt r → P ((eL (eP4 D.str D.int D.int D.int)) r)) (hx : ∀ e, Xt e → P2 e) : w_wish_reasons [(eDp depot), (D.int days), d_wish] P P2 := by
  unfold t_wish_reasons at h
  unfold w_wish_reasons wpB
  show b_wish_reasons _ [some (.d (eDp depot)), some (.d (D.int days)), some (.d d_wish), none]
  unfold b_wish_reasons
  with_reducible refine w_seq (w_as3 (e_meth (e_v0 (k_obj (a_cons (e_v1 (a_nil ?_)))))))
  refine tr_Depot_closings (self := depot) (days := days)  h ?_ hx; clear h; intro closings h
  with_reducible refine w_ret (e_op (e_op (e_call (a_cons (e_v0 (a_cons (e_v1 (a_cons (e_v2 (a_nil ?_))))))))))
  refine tr_crowd_reasons (depot := depot) (days := days) (weekdays := wish) hd_wish h ?_ hx; clear h; intro r1 h
  with_reducible refine e_call (a_cons (e_c (a_cons (e_call (a_cons (e_v0 (a_cons (e_v1 (a_cons (e_v2 (a_nil ?_)))))))))))
  refine tr_closing_needs (depot := depot) (days := days) (wish := wish) hd_wish h ?_ hx; clear h; intro r2 h
  with_reducible refine a_cons ?_
  obtain ⟨s1, h⟩ := h
  with_reducible refine e_op (e_fld (e_v0 (y_fd0_1_01 (e_v3 (y_mul s1 (a_nil ?_))))))
  obtain ⟨s2, h⟩ := h
  with_reducible refine pf_need_reasons (word := ("closings" : Str)) (needs := r2) (carried := (depot.q * closings)) hdL s2 ?_
  obtain ⟨s3, h⟩ := h
  with_reducible refine y_addL s3 (e_call (a_cons (e_c (a_cons (e_call (a_cons (e_v0 (a_cons (e_v1 (a_cons (e_v2 (a_nil ?_))))))))))))
  refine tr_late_needs (depot := depot) (days := days) (wish := wish) hd_wish h ?_ hx; clear h; intro r4 h
  with_reducible refine a_cons ?_
  obtain ⟨s4, h⟩ := h
  with_reducible refine e_op (e_fld (e_v0 (y_fd0_1_01 (e_cb (a_cons (e_c (a_cons (e_op (e_v3 (e_c (o_sub (a_nil (y_max (y_mul s4 (a_nil ?_)))))))))))))))
  obtain ⟨s5, h⟩ := h
  with_reducible refine pf_need_reasons (word := ("lasts" : Str)) (needs := r4) (carried := (depot.q * (mx 0 (closings - 1)))) hdL s5 ?_
  obtain ⟨s6, h⟩ := h
  with_reducible refine y_addL s6 ?_
  exact hq ((r1 ++ (g_need_reasons ("closings" : Str) r2 (depot.q * closings))) ++ (g_need_reasons ("lasts" : Str) r4 (depot.q * (mx 0 (closings - 1))))) h

noncomputable def t_deal (places : (List Int)) (firsts : (List Int)) (Q : (List Int) → Prop) (X : Exn → Prop) : Prop :=
  (-(2 ^ 63) ≤ (firsts.length : Int) ∧ (firsts.length : Int) ≤ 16777216) ∧ bnd (List.replicate (firsts.length : Int).toNat 0) (fun (dealt : (List Int)) => (RgK (places.length : Int) 0 (-1)) ∧ forK (rgc (places.length : Int) 0 (-1)) (fun (weekday : Int) (k : (List Int) → (List Int) → Prop) (dealt2 : (List Int)) (over : (List Int)) => ixOk places (weekday - 1) ∧ b62 (gi places (weekday - 1)) ∧ forK (rg 0 (gi places (weekday - 1))) (fun (v : Int) (k : (List Int) → (List Int) → Prop) (dealt3 : (List Int)) (over2 : (List Int)) => ((en 0 firsts).length ≤ szl) ∧ (∀ r1 ∈ (en 0 firsts), ixOk dealt3 r1.1) ∧ bnd (List.map (fun (r1 : (Int × Int)) => (r1.2, r1.1)) ((en 0 firsts).filter fun (r1 : (Int × Int)) => decide (((gi dealt3 r1.1) = 0 ∧ r1.2 ≤ weekday)))) (fun (able : (List (Int × Int))) => ifP (able ≠ []) (False) ((over2.length < szl) ∧ k dealt3 (over2 ++ [weekday])))) (fun (dealt3 : (List Int)) (over2 : (List Int)) => k dealt3 over2) dealt2 over) (fun (dealt2 : (List Int)) (over : (List Int)) => (dealt2.length ≤ szl) ∧ (∀ weekday2 ∈ dealt2, (¬ (0 < weekday2) → False)) ∧ Q (List.map (fun (weekday2 : Int) => (if 0 < weekday2 then weekday2 else 0)) dealt2)) dealt ([] : List Int))

theorem tr_deal {places : (List Int)} {firsts : (List Int)} {d_places : D} {d_firsts : D} {Qt : (List Int) → Prop} {Xt : Exn → Prop} {P : D → Prop} {P2 : Exn → Prop} (hd_places : itemsD d_places = some (List.map D.int places)) (hd_firsts : itemsD d_firsts = some (List.map D.int firsts)) (h : t_deal places firsts Qt Xt) (hq : ∀ r, Qt r → P ((eL D.int) r)) (hx : ∀ e, Xt e → P2 e) : w_deal [d_places, d_firsts] P P2 := by
  unfold t_deal at h
  unfold w_deal wpB
  show b_deal _ [some (.d d_places), some (.d d_firsts), none, none, none, none, none, none, none, none]
  unfold b_deal
  with_reducible refine w_seq (w_ao2 ?_)
  obtain ⟨s1, h⟩ := h
  with_reducible refine e_op (e_lstK (a_cons (e_c (a_nil (y_mk1 (f := D.int) (a0 := 0) (e_cb (a_cons (e_v1 (a_nil (y_lenS hd_firsts (y_rep (f := D.int) (x := 0) s1 (k_ao ?_))))))))))))
  refine gen_o2 D.int h ?_; clear h; intro dealt h
  with_reducible refine w_seq (w_ao3 (e_lstK (a_nil (y_mk0 (f := D.int)  (k_ao (w_seq (w_for ?_)))))))
  obtain ⟨s2, h⟩ := h
  with_reducible refine y_rg3 (fun _ hQ => e_cb (a_cons (e_v0 (a_nil (y_lenS hd_places hQ))))) (fun _ hQ => e_c hQ) (fun _ hQ => e_un (e_c (o_neg hQ))) s2 ?_
  refine w_forK D.int (fun (k : (List Int) → (List Int) → Prop) N => ∀ (dealt2 : (List Int)) (over : (List Int)) (o1 o2 o3 o4 : Option S), k dealt2 over → N [some (.d d_places), some (.d d_firsts), some (.own none (List.map D.int dealt2)), some (.own none (List.map D.int over)), o1, o2, o3, none, none, o4]) ?_ ?_ dealt ([] : List Int) _ _ _ _ h <;> clear h
  · intro dealt2 over o1 o2 o3 o4 h
    try dsimp only at h
    with_reducible refine w_fz2 (w_ret ?_)
    obtain ⟨s3, h⟩ := h
    obtain ⟨s6, h⟩ := h
    with_reducible refine w_lc_4 (y_it (fun _ hQ => e_v2 hQ) (f := D.int) (xs := dealt2) hdL (y_lcM (f := D.int) (g := D.int) (fun (weekday2 : Int) => (if 0 < weekday2 then weekday2 else 0)) s3 (fun weekday2 hx_ _ hQ => g_n4 (e_ifT (p := 0 < weekday2) (f := D.int) (x := weekday2) (y := 0) (tt_cmp (p := 0 < weekday2) (fun _ hQ => e_op (e_v4 (e_c (o_gt hQ))))) (fun hp2 => (fun _ hQ => e_v4 hQ)) (fun hp3 => (fun _ hQ => e_nev (d := D.int 0) ((s6 weekday2 hx_) hp3) hQ)) hQ)) ?_))
    exact hq (List.map (fun (weekday2 : Int) => (if 0 < weekday2 then weekday2 else 0)) dealt2) h
  · intro weekday k N hn dealt2 over o1 o2 o3 o4 h
    try dsimp only at h
    with_reducible refine g_n4 (w_for ?_)
    obtain ⟨s7, h⟩ := h
    obtain ⟨s8, h⟩ := h
    with_reducible refine y_rg1 (fun _ hQ => e_op (e_v0 (e_op (e_v4 (e_c (o_sub (y_ixS hd_places s7 hQ))))))) s8 ?_
    refine w_forK D.int (fun (k : (List Int) → (List Int) → Prop) N => ∀ (dealt3 : (List Int)) (over2 : (List Int)) (o5 o6 o7 : Option S), k dealt3 over2 → N [some (.d d_places), some (.d d_firsts), some (.own none (List.map D.int dealt3)), some (.own none (List.map D.int over2)), some (.d (D.int weekday)), o5, o6, none, none, o7]) ?_ ?_ dealt2 over _ _ _ h <;> clear h
    · intro dealt3 over2 o5 o6 o7 h
      try dsimp only at h
      exact hn dealt3 over2 _ _ _ _ h
    · intro v k N hn dealt3 over2 o5 o6 o7 h
      try dsimp only at h
      with_reducible refine g_n5 (w_seq (w_as6 ?_))
      obtain ⟨s9, h⟩ := h
      obtain ⟨s11, h⟩ := h
      with_reducible refine w_lc_7_8 (y_en (fun _ hQ => e_v1 hQ) (f := D.int) (xs := firsts) hd_firsts (y_lcT (f := (eP2 D.int D.int)) (g := (eP2 D.int D.int)) (fun (r1 : (Int × Int)) => ((gi dealt3 r1.1) = 0 ∧ r1.2 ≤ weekday)) (fun (r1 : (Int × Int)) => (r1.2, r1.1)) s9 (fun r1 hx_2 A Q hq1_ hq2_ => y_g2 (g_cons (g_n7 (g_cons (g_n8 (g_nil ((tt_and (p := (gi dealt3 r1.1) = 0) (q := r1.2 ≤ weekday) (tt_cmp (p := (gi dealt3 r1.1) = 0) (fun _ hQ => e_op (e_op (e_vo2 (e_v7 (y_ixL (s11 r1 hx_2) (e_c (o_eq hQ)))))))) (fun hp5 => (tt_cmp (p := r1.2 ≤ weekday) (fun _ hQ => e_op (e_v8 (e_v4 (o_le hQ))))))) _ fun b hb => w_ifB hb (fun hp4 => (e_tup (a_cons (e_v8 (a_cons (e_v7 (a_nil (And.intro ln2 (hq1_ hp4))))))))) hq2_))))))) ?_))
      refine gen_d6 (eL (eP2 D.int D.int)) h ?_; clear h; intro able h
      with_reducible refine w_ifT (p := able ≠ []) (tt_truL (f := (eP2 D.int D.int)) (xs := able) (fun _ hQ => e_v6 hQ)) (fun c => ?_) (fun c => ?_)
      · replace h := h.1 c
        exact False.elim h
      · replace h := h.2 c
        with_reducible refine w_ap3 (e_v4 ?_)
        obtain ⟨s12, h⟩ := h
        with_reducible refine y_app (f := D.int) (xs := over2) (y := weekday) s12 ?_
        exact hn dealt3 (over2 ++ [weekday]) _ _ _ h

noncomputable def t_completed (depot : Dp) (days : Int) (wish : (List Int)) (Q : (List Int) → Prop) (X : Exn → Prop) : Prop :=
  t_left_places depot days wish (fun (r1 : (List Int)) => sd_free_firsts depot wish ∧ t_deal r1 (g_free_firsts depot wish) (fun (dealt : (List Int)) => ((en 0 wish).length ≤ szl) ∧ bnd (List.map (fun (r2 : (Int × Int)) => r2.1) ((en 0 wish).filter fun (r2 : (Int × Int)) => decide (r2.2 = 0))) (fun (free : (List Int)) => forK (free.zip dealt) (fun (r3 : (Int × Int)) (k : (List Int) → Prop) (due : (List Int)) => ixOk due r3.1 ∧ k (st due r3.1 r3.2)) (fun (due : (List Int)) => Q due) wish)) X) X

theorem tr_completed {depot : Dp} {days : Int} {wish : (List Int)} {d_wish : D} {Qt : (List Int) → Prop} {Xt : Exn → Prop} {P : D → Prop} {P2 : Exn → Prop} (hd_wish : itemsD d_wish = some (List.map D.int wish)) (h : t_completed depot days wish Qt Xt) (hq : ∀ r, Qt r → P ((eL D.int) r)) (hx : ∀ e, Xt e → P2 e) : w_completed [(eDp depot), (D.int days), d_wish] P P2 := by
  unfold t_completed at h
  unfold w_completed wpB
  show b_completed _ [some (.d (eDp depot)), some (.d (D.int days)), some (.d d_wish), none, none, none, none, none]
  unfold b_completed
  with_reducible refine w_seq (w_as3 (e_call (a_cons (e_call (a_cons (e_v0 (a_cons (e_v1 (a_cons (e_v2 (a_nil ?_)))))))))))
  refine tr_left_places (depot := depot) (days := days) (weekdays := wish) hd_wish h ?_ hx; clear h; intro r1 h
  with_reducible refine a_cons ?_
  obtain ⟨s1, h⟩ := h
  with_reducible refine e_call (a_cons (e_v0 (a_cons (e_v2 (a_nil (pf_free_firsts (depot := depot) (wish := wish) hd_wish s1 (a_nil ?_)))))))
  refine tr_deal (places := r1) (firsts := (g_free_firsts depot wish)) hdL hdL h ?_ hx; clear h; intro dealt h
  with_reducible refine w_seq (w_as4 ?_)
  obtain ⟨s2, h⟩ := h
  with_reducible refine w_lc_5_6 (y_en (fun _ hQ => e_v2 hQ) (f := D.int) (xs := wish) hd_wish (y_lcT (f := (eP2 D.int D.int)) (g := D.int) (fun (r2 : (Int × Int)) => r2.2 = 0) (fun (r2 : (Int × Int)) => r2.1) s2 (fun r2 hx_ A Q hq1_ hq2_ => y_g2 (g_cons (g_n5 (g_cons (g_n6 (g_nil ((tt_cmp (p := r2.2 = 0) (fun _ hQ => e_op (e_v6 (e_c (o_eq hQ))))) _ fun b hb => w_ifB hb (fun hp => (e_v5 (hq1_ hp))) hq2_))))))) ?_))
  refine gen_d4 (eL D.int) h ?_; clear h; intro free h
  with_reducible refine w_seq (w_ao7 (e_cb (a_cons (e_v2 (a_nil (y_list (f := D.int) (xs := wish) hd_wish (k_ao (w_seq (w_for (y_zip (f := D.int) (xs := free) (g := D.int) (ys := dealt) (fun _ hQ => e_v4 hQ) hdL (fun _ hQ => e_v3 hQ) hdL ?_))))))))))
  refine w_forK (eP2 D.int D.int) (fun (k : (List Int) → Prop) N => ∀ (due : (List Int)) (o1 o2 : Option S), k due → N [some (.d (eDp depot)), some (.d (D.int days)), some (.d d_wish), some (.d (D.lst (List.map D.int dealt))), some (.d (D.lst (List.map D.int free))), o1, o2, some (.own none (List.map D.int due))]) ?_ ?_ wish _ _ h <;> clear h
  · intro due o1 o2 h
    try dsimp only at h
    with_reducible refine w_fz7 (w_ret (e_v7 ?_))
    exact hq due h
  · intro r3 k N hn due o1 o2 h
    try dsimp only at h
    with_reducible refine y_g2 (g_cons (g_n5 (g_cons (g_n6 (g_nil (w_si7 (e_v6 (e_v5 ?_))))))))
    obtain ⟨s3, h⟩ := h
    with_reducible refine y_set (f := D.int) (xs := due) (y := r3.2) s3 ?_
    exact hn (st due r3.1 r3.2) _ _ h

noncomputable def t_reach (depot : Dp) (days : Int) (wish : (List Int)) (Q0 : (Str × Int × Int × Int) → Prop) (Q1 : (Str × (List Int)) → Prop) (X : Exn → Prop) : Prop :=
  t_check_days days (fun (r1 : Unit) => t_check_wish depot wish (fun (r2 : Unit) => t_wish_reasons depot days wish (fun (reasons : (List (Str × Int × Int × Int))) => ifP (reasons ≠ []) (ixOk reasons 0 ∧ Q0 (gi reasons 0)) (t_completed depot days wish (fun (r3 : (List Int)) => Q1 (("reached" : Str), r3)) X)) X) X) X

theorem tr_reach {depot : Dp} {days : Int} {wish : (List Int)} {d_wish : D} {Qt0 : (Str × Int × Int × Int) → Prop} {Qt1 : (Str × (List Int)) → Prop} {Xt : Exn → Prop} {P : D → Prop} {P2 : Exn → Prop} (hd_wish : itemsD d_wish = some (List.map D.int wish)) (h : t_reach depot days wish Qt0 Qt1 Xt) (hq0 : ∀ r, Qt0 r → P ((eP4 D.str D.int D.int D.int) r)) (hq1 : ∀ r, Qt1 r → P ((eP2 D.str (eL D.int)) r)) (hx : ∀ e, Xt e → P2 e) : w_reach [(eDp depot), (D.int days), d_wish] P P2 := by
  unfold t_reach at h
  unfold w_reach wpB
  show b_reach _ [some (.d (eDp depot)), some (.d (D.int days)), some (.d d_wish), none]
  unfold b_reach
  with_reducible refine w_seq (w_drop (e_call (a_cons (e_v1 (a_nil ?_)))))
  refine tr_check_days (days := days)  h ?_ hx; clear h; intro r1 h
  with_reducible refine w_seq (w_drop (e_call (a_cons (e_v0 (a_cons (e_v2 (a_nil ?_)))))))
  refine tr_check_wish (depot := depot) (wish := wish) hd_wish h ?_ hx; clear h; intro r2 h
  with_reducible refine w_seq (w_as3 (e_call (a_cons (e_v0 (a_cons (e_v1 (a_cons (e_v2 (a_nil ?_)))))))))
  refine tr_wish_reasons (depot := depot) (days := days) (wish := wish) hd_wish h ?_ hx; clear h; intro reasons h
  with_reducible refine w_ret (e_ifE ?_)
  refine (tt_truL (f := (eP4 D.str D.int D.int D.int)) (xs := reasons) (fun _ hQ => e_v3 hQ)) _ fun b hb => ?_
  cases b
  · replace h := h.2 (fun z => by have := hb.mpr z; cases this)
    with_reducible refine w_ff (e_tup (a_cons (e_c (a_cons (e_call (a_cons (e_v0 (a_cons (e_v1 (a_cons (e_v2 (a_nil ?_))))))))))))
    refine tr_completed (depot := depot) (days := days) (wish := wish) hd_wish h ?_ hx; clear h; intro r3 h
    with_reducible refine a_nil (And.intro ln2 ?_)
    exact hq1 (("reached" : Str), r3) h
  · replace h := h.1 (hb.mp rfl)
    with_reducible refine w_tt ?_
    obtain ⟨s1, h⟩ := h
    with_reducible refine e_op (e_v3 (e_c (y_ixL s1 ?_)))
    exact hq0 (gi reasons 0) h

noncomputable def g__law_number (got : Int) : Bool :=
  true

theorem pf__law_number {got : Int}  {Q : D → Prop} {Q2 : Exn → Prop}  (h : Q (D.bl (g__law_number got))) : w__law_number [(D.int got)] Q Q2 := by
  unfold g__law_number at h
  unfold w__law_number wpB
  show b__law_number _ [some (.d (D.int got))]
  unfold b__law_number
  with_reducible refine w_ret (e_andT (fun _ hQ => e_isT (e_v0 (k_ty_int_int hQ))) (e_notF (fun _ hQ => e_isT (e_v0 (k_ty_bool_int hQ))) ?_))
  exact h

noncomputable def t__law_right (got : (Str × Int × Int × Int)) (due : (Str × Int × Int × Int)) (z : Int) (m : Int) (Q : Bool → Prop) (X : Exn → Prop) : Prop :=
  PyData.strOk due.1 = true ∧ (¬ (due.1 = ("crowd" : Str)) → PyData.strOk due.1 = true) ∧ ifP ((due.1 = ("crowd" : Str) ∨ due.1 = ("reached" : Str))) (sameT ((eP4 D.str D.int D.int D.int) got) ((eP4 D.str D.int D.int D.int) due) ∧ Q true) (ifP (¬ ((g__law_number got.2.1) = true)) (Q false) ((¬ (m < got.2.1) → (¬ (got.2.1 < 0) → PyData.strOk due.1 = true)) ∧ ifP ((m < got.2.1 ∨ (got.2.1 < 0 ∨ (due.1 = ("lasts" : Str) ∧ got.2.1 < z)))) (Q false) (sameT ((eP4 D.str D.int D.int D.int) got) (D.tup [(D.str due.1), (D.int got.2.1), (D.int due.2.1), (D.int due.2.2.1)]) ∧ Q true)))

theorem tr__law_right {got : (Str × Int × Int × Int)} {due : (Str × Int × Int × Int)} {z : Int} {m : Int}  {Qt : Bool → Prop} {Xt : Exn → Prop} {P : D → Prop} {P2 : Exn → Prop}  (h : t__law_right got due z m Qt Xt) (hq : ∀ r, Qt r → P (D.bl r)) (hx : ∀ e, Xt e → P2 e) : w__law_right [((eP4 D.str D.int D.int D.int) got), ((eP4 D.str D.int D.int D.int) due), (D.int z), (D.int m)] P P2 := by
  unfold t__law_right at h
  unfold w__law_right wpB
  show b__law_right _ [some (.d ((eP4 D.str D.int D.int D.int) got)), some (.d ((eP4 D.str D.int D.int D.int) due)), some (.d (D.int z)), some (.d (D.int m))]
  unfold b__law_right
  with_reducible refine w_seq ?_
  obtain ⟨s1, h⟩ := h
  have s2 : PyData.strOk ("crowd" : Str) = true := by decide +kernel
  obtain ⟨s5, h⟩ := h
  have s4 : PyData.strOk ("reached" : Str) = true := by decide +kernel
  with_reducible refine w_ifT (p := (due.1 = ("crowd" : Str) ∨ due.1 = ("reached" : Str))) (tt_or (p := due.1 = ("crowd" : Str)) (q := due.1 = ("reached" : Str)) (tt_cmp (p := due.1 = ("crowd" : Str)) (fun _ hQ => e_op (e_op (e_v1 (e_c (y_t0 (e_c (o_eqS s1 s2 hQ)))))))) (fun hp => (tt_cmp (p := due.1 = ("reached" : Str)) (fun _ hQ => e_op (e_op (e_v1 (e_c (y_t0 (e_c (o_eqS (s5 hp) s4 hQ)))))))))) (fun c => ?_) (fun c => ?_)
  · replace h := h.1 c
    with_reducible refine w_ret (e_call (a_cons (e_v0 (a_cons (e_v1 (a_nil ?_))))))
    obtain ⟨s6, h⟩ := h
    refine tr_same s6 ?_
    exact hq true h
  · replace h := h.2 c
    with_reducible refine w_next (w_seq ?_)
    have s7 : ¬ ((4 : Int) ≠ (4 : Int)) := by decide
    with_reducible refine w_ifT (p := ¬ ((g__law_number got.2.1) = true)) (tt_orF (tt_notT (tt_T (fun _ hQ => e_isT (e_v0 (k_ty_tuple_tup hQ))))) (tt_orF (tt_sF (fun _ hQ => e_op (e_cb (a_cons (e_v0 (a_nil (y_lntup4 (e_c (y_neF s7 hQ))))))))) (tt_not (p := (g__law_number got.2.1) = true) (tt_truB (k := (g__law_number got.2.1)) (fun _ hQ => e_call (a_cons (e_op (e_v0 (e_c (y_t1 (a_nil (pf__law_number (got := got.2.1)   hQ)))))))))))) (fun c => ?_) (fun c => ?_)
    · replace h := h.1 c
      with_reducible refine w_ret (e_c ?_)
      exact hq false h
    · replace h := h.2 c
      with_reducible refine w_next (w_seq ?_)
      obtain ⟨s11, h⟩ := h
      have s9 : PyData.strOk ("lasts" : Str) = true := by decide +kernel
      with_reducible refine w_ifT (p := (m < got.2.1 ∨ (got.2.1 < 0 ∨ (due.1 = ("lasts" : Str) ∧ got.2.1 < z)))) (tt_or (p := m < got.2.1) (q := (got.2.1 < 0 ∨ (due.1 = ("lasts" : Str) ∧ got.2.1 < z))) (tt_cmp (p := m < got.2.1) (fun _ hQ => e_op (e_op (e_v0 (e_c (y_t1 (by exact (e_v3 (o_gt hQ))))))))) (fun hp4 => (tt_or (p := got.2.1 < 0) (q := (due.1 = ("lasts" : Str) ∧ got.2.1 < z)) (tt_cmp (p := got.2.1 < 0) (fun _ hQ => e_op (e_op (e_v0 (e_c (y_t1 (by exact (e_c (o_lt hQ))))))))) (fun hp3 => (tt_and (p := due.1 = ("lasts" : Str)) (q := got.2.1 < z) (tt_cmp (p := due.1 = ("lasts" : Str)) (fun _ hQ => e_op (e_op (e_v1 (e_c (y_t0 (e_c (o_eqS ((s11 hp4) hp3) s9 hQ)))))))) (fun hp2 => (tt_cmp (p := got.2.1 < z) (fun _ hQ => e_op (e_op (e_v0 (e_c (y_t1 (by exact (e_v2 (o_lt hQ))))))))))))))) (fun c => ?_) (fun c => ?_)
      · replace h := h.1 c
        with_reducible refine w_ret (e_c ?_)
        exact hq false h
      · replace h := h.2 c
        with_reducible refine w_next (w_ret (e_call (a_cons (e_v0 (a_cons (e_tup (a_cons (e_op (e_v1 (e_c (y_t0 (a_cons (e_op (e_v0 (e_c (y_t1 (a_cons (e_op (e_v1 (e_c (y_t1 (a_cons (e_op (e_v1 (e_c (y_t2 (a_nil (And.intro ln4 (a_nil ?_)))))))))))))))))))))))))))))
        obtain ⟨s12, h⟩ := h
        refine tr_same s12 ?_
        exact hq true h

noncomputable def t__law_right_2 (got : (Str × (List Int))) (due : (Str × Int × Int × Int)) (z : Int) (m : Int) (Q : Bool → Prop) (X : Exn → Prop) : Prop :=
  PyData.strOk due.1 = true ∧ (¬ (due.1 = ("crowd" : Str)) → PyData.strOk due.1 = true) ∧ ifP ((due.1 = ("crowd" : Str) ∨ due.1 = ("reached" : Str))) (sameT ((eP2 D.str (eL D.int)) got) ((eP4 D.str D.int D.int D.int) due) ∧ Q true) (Q false)

theorem tr__law_right_2 {got : (Str × (List Int))} {due : (Str × Int × Int × Int)} {z : Int} {m : Int}  {Qt : Bool → Prop} {Xt : Exn → Prop} {P : D → Prop} {P2 : Exn → Prop}  (h : t__law_right_2 got due z m Qt Xt) (hq : ∀ r, Qt r → P (D.bl r)) (hx : ∀ e, Xt e → P2 e) : w__law_right [((eP2 D.str (eL D.int)) got), ((eP4 D.str D.int D.int D.int) due), (D.int z), (D.int m)] P P2 := by
  unfold t__law_right_2 at h
  unfold w__law_right wpB
  show b__law_right _ [some (.d ((eP2 D.str (eL D.int)) got)), some (.d ((eP4 D.str D.int D.int D.int) due)), some (.d (D.int z)), some (.d (D.int m))]
  unfold b__law_right
  with_reducible refine w_seq ?_
  obtain ⟨s1, h⟩ := h
  have s2 : PyData.strOk ("crowd" : Str) = true := by decide +kernel
  obtain ⟨s5, h⟩ := h
  have s4 : PyData.strOk ("reached" : Str) = true := by decide +kernel
  with_reducible refine w_ifT (p := (due.1 = ("crowd" : Str) ∨ due.1 = ("reached" : Str))) (tt_or (p := due.1 = ("crowd" : Str)) (q := due.1 = ("reached" : Str)) (tt_cmp (p := due.1 = ("crowd" : Str)) (fun _ hQ => e_op (e_op (e_v1 (e_c (y_t0 (e_c (o_eqS s1 s2 hQ)))))))) (fun hp => (tt_cmp (p := due.1 = ("reached" : Str)) (fun _ hQ => e_op (e_op (e_v1 (e_c (y_t0 (e_c (o_eqS (s5 hp) s4 hQ)))))))))) (fun c => ?_) (fun c => ?_)
  · replace h := h.1 c
    with_reducible refine w_ret (e_call (a_cons (e_v0 (a_cons (e_v1 (a_nil ?_))))))
    obtain ⟨s6, h⟩ := h
    refine tr_same s6 ?_
    exact hq true h
  · replace h := h.2 c
    with_reducible refine w_next (w_seq ?_)
    have s7 : (2 : Int) ≠ (4 : Int) := by decide
    refine w_ifTrue (tt_orF (tt_notT (tt_T (fun _ hQ => e_isT (e_v0 (k_ty_tuple_tup hQ))))) (tt_orT (tt_sT (fun _ hQ => e_op (e_cb (a_cons (e_v0 (a_nil (y_lntup2 (e_c (y_neT s7 hQ))))))))))) ?_
    with_reducible refine w_ret (e_c ?_)
    exact hq false h

noncomputable def t__law_right_3 (got : (Str × (List Int))) (due : (Str × Int × Int × Int)) (z : Int) (m : Int) (Q : Bool → Prop) (X : Exn → Prop) : Prop :=
  PyData.strOk due.1 = true ∧ (¬ (due.1 = ("crowd" : Str)) → PyData.strOk due.1 = true) ∧ ifP ((due.1 = ("crowd" : Str) ∨ due.1 = ("reached" : Str))) (sameW ((eP2 D.str (eV D.int)) got) ((eP4 D.str D.int D.int D.int) due) ∧ Q true) (Q false)

theorem tr__law_right_3 {got : (Str × (List Int))} {due : (Str × Int × Int × Int)} {z : Int} {m : Int}  {Qt : Bool → Prop} {Xt : Exn → Prop} {P : D → Prop} {P2 : Exn → Prop}  (h : t__law_right_3 got due z m Qt Xt) (hq : ∀ r, Qt r → P (D.bl r)) (hx : ∀ e, Xt e → P2 e) : w__law_right [((eP2 D.str (eV D.int)) got), ((eP4 D.str D.int D.int D.int) due), (D.int z), (D.int m)] P P2 := by
  unfold t__law_right_3 at h
  unfold w__law_right wpB
  show b__law_right _ [some (.d ((eP2 D.str (eV D.int)) got)), some (.d ((eP4 D.str D.int D.int D.int) due)), some (.d (D.int z)), some (.d (D.int m))]
  unfold b__law_right
  with_reducible refine w_seq ?_
  obtain ⟨s1, h⟩ := h
  have s2 : PyData.strOk ("crowd" : Str) = true := by decide +kernel
  obtain ⟨s5, h⟩ := h
  have s4 : PyData.strOk ("reached" : Str) = true := by decide +kernel
  with_reducible refine w_ifT (p := (due.1 = ("crowd" : Str) ∨ due.1 = ("reached" : Str))) (tt_or (p := due.1 = ("crowd" : Str)) (q := due.1 = ("reached" : Str)) (tt_cmp (p := due.1 = ("crowd" : Str)) (fun _ hQ => e_op (e_op (e_v1 (e_c (y_t0 (e_c (o_eqS s1 s2 hQ)))))))) (fun hp => (tt_cmp (p := due.1 = ("reached" : Str)) (fun _ hQ => e_op (e_op (e_v1 (e_c (y_t0 (e_c (o_eqS (s5 hp) s4 hQ)))))))))) (fun c => ?_) (fun c => ?_)
  · replace h := h.1 c
    with_reducible refine w_ret (e_call (a_cons (e_v0 (a_cons (e_v1 (a_nil ?_))))))
    obtain ⟨s6, h⟩ := h
    refine tr_sameW s6 ?_
    exact hq true h
  · replace h := h.2 c
    with_reducible refine w_next (w_seq ?_)
    have s7 : (2 : Int) ≠ (4 : Int) := by decide
    refine w_ifTrue (tt_orF (tt_notT (tt_T (fun _ hQ => e_isT (e_v0 (k_ty_tuple_tup hQ))))) (tt_orT (tt_sT (fun _ hQ => e_op (e_cb (a_cons (e_v0 (a_nil (y_lntup2 (e_c (y_neT s7 hQ))))))))))) ?_
    with_reducible refine w_ret (e_c ?_)
    exact hq false h

noncomputable def t__law_right_4 (got : (Str × Int × Int × Int)) (due : (Str × Int × Int)) (z : Int) (m : Int) (Q : Bool → Prop) (X : Exn → Prop) : Prop :=
  PyData.strOk due.1 = true ∧ (¬ (due.1 = ("crowd" : Str)) → PyData.strOk due.1 = true) ∧ ifP ((due.1 = ("crowd" : Str) ∨ due.1 = ("reached" : Str))) (sameT ((eP4 D.str D.int D.int D.int) got) ((eP3 D.str D.int D.int) due) ∧ Q true) (ifP (¬ ((g__law_number got.2.1) = true)) (Q false) ((¬ (m < got.2.1) → (¬ (got.2.1 < 0) → PyData.strOk due.1 = true)) ∧ ifP ((m < got.2.1 ∨ (got.2.1 < 0 ∨ (due.1 = ("lasts" : Str) ∧ got.2.1 < z)))) (Q false) (sameT ((eP4 D.str D.int D.int D.int) got) (D.tup [(D.str due.1), (D.int got.2.1), (D.int due.2.1), (D.int due.2.2)]) ∧ Q true)))

theorem tr__law_right_4 {got : (Str × Int × Int × Int)} {due : (Str × Int × Int)} {z : Int} {m : Int}  {Qt : Bool → Prop} {Xt : Exn → Prop} {P : D → Prop} {P2 : Exn → Prop}  (h : t__law_right_4 got due z m Qt Xt) (hq : ∀ r, Qt r → P (D.bl r)) (hx : ∀ e, Xt e → P2 e) : w__law_right [((eP4 D.str D.int D.int D.int) got), ((eP3 D.str D.int D.int) due), (D.int z), (D.int m)] P P2 := by
  unfold t__law_right_4 at h
  unfold w__law_right wpB
  show b__law_right _ [some (.d ((eP4 D.str D.int D.int D.int) got)), some (.d ((eP3 D.str D.int D.int) due)), some (.d (D.int z)), some (.d (D.int m))]
  unfold b__law_right
  with_reducible refine w_seq ?_
  obtain ⟨s1, h⟩ := h
  have s2 : PyData.strOk ("crowd" : Str) = true := by decide +kernel
  obtain ⟨s5, h⟩ := h
  have s4 : PyData.strOk ("reached" : Str) = true := by decide +kernel
  with_reducible refine w_ifT (p := (due.1 = ("crowd" : Str) ∨ due.1 = ("reached" : Str))) (tt_or (p := due.1 = ("crowd" : Str)) (q := due.1 = ("reached" : Str)) (tt_cmp (p := due.1 = ("crowd" : Str)) (fun _ hQ => e_op (e_op (e_v1 (e_c (y_t0 (e_c (o_eqS s1 s2 hQ)))))))) (fun hp => (tt_cmp (p := due.1 = ("reached" : Str)) (fun _ hQ => e_op (e_op (e_v1 (e_c (y_t0 (e_c (o_eqS (s5 hp) s4 hQ)))))))))) (fun c => ?_) (fun c => ?_)
  · replace h := h.1 c
    with_reducible refine w_ret (e_call (a_cons (e_v0 (a_cons (e_v1 (a_nil ?_))))))
    obtain ⟨s6, h⟩ := h
    refine tr_same s6 ?_
    exact hq true h
  · replace h := h.2 c
    with_reducible refine w_next (w_seq ?_)
    have s7 : ¬ ((4 : Int) ≠ (4 : Int)) := by decide
    with_reducible refine w_ifT (p := ¬ ((g__law_number got.2.1) = true)) (tt_orF (tt_notT (tt_T (fun _ hQ => e_isT (e_v0 (k_ty_tuple_tup hQ))))) (tt_orF (tt_sF (fun _ hQ => e_op (e_cb (a_cons (e_v0 (a_nil (y_lntup4 (e_c (y_neF s7 hQ))))))))) (tt_not (p := (g__law_number got.2.1) = true) (tt_truB (k := (g__law_number got.2.1)) (fun _ hQ => e_call (a_cons (e_op (e_v0 (e_c (y_t1 (a_nil (pf__law_number (got := got.2.1)   hQ)))))))))))) (fun c => ?_) (fun c => ?_)
    · replace h := h.1 c
      with_reducible refine w_ret (e_c ?_)
      exact hq false h
    · replace h := h.2 c
      with_reducible refine w_next (w_seq ?_)
      obtain ⟨s11, h⟩ := h
      have s9 : PyData.strOk ("lasts" : Str) = true := by decide +kernel
      with_reducible refine w_ifT (p := (m < got.2.1 ∨ (got.2.1 < 0 ∨ (due.1 = ("lasts" : Str) ∧ got.2.1 < z)))) (tt_or (p := m < got.2.1) (q := (got.2.1 < 0 ∨ (due.1 = ("lasts" : Str) ∧ got.2.1 < z))) (tt_cmp (p := m < got.2.1) (fun _ hQ => e_op (e_op (e_v0 (e_c (y_t1 (by exact (e_v3 (o_gt hQ))))))))) (fun hp4 => (tt_or (p := got.2.1 < 0) (q := (due.1 = ("lasts" : Str) ∧ got.2.1 < z)) (tt_cmp (p := got.2.1 < 0) (fun _ hQ => e_op (e_op (e_v0 (e_c (y_t1 (by exact (e_c (o_lt hQ))))))))) (fun hp3 => (tt_and (p := due.1 = ("lasts" : Str)) (q := got.2.1 < z) (tt_cmp (p := due.1 = ("lasts" : Str)) (fun _ hQ => e_op (e_op (e_v1 (e_c (y_t0 (e_c (o_eqS ((s11 hp4) hp3) s9 hQ)))))))) (fun hp2 => (tt_cmp (p := got.2.1 < z) (fun _ hQ => e_op (e_op (e_v0 (e_c (y_t1 (by exact (e_v2 (o_lt hQ))))))))))))))) (fun c => ?_) (fun c => ?_)
      · replace h := h.1 c
        with_reducible refine w_ret (e_c ?_)
        exact hq false h
      · replace h := h.2 c
        with_reducible refine w_next (w_ret (e_call (a_cons (e_v0 (a_cons (e_tup (a_cons (e_op (e_v1 (e_c (y_t0 (a_cons (e_op (e_v0 (e_c (y_t1 (a_cons (e_op (e_v1 (e_c (y_t1 (a_cons (e_op (e_v1 (e_c (y_t2 (a_nil (And.intro ln4 (a_nil ?_)))))))))))))))))))))))))))))
        obtain ⟨s12, h⟩ := h
        refine tr_same s12 ?_
        exact hq true h

noncomputable def t__law_right_5 (got : (Str × (List Int))) (due : (Str × Int × Int)) (z : Int) (m : Int) (Q : Bool → Prop) (X : Exn → Prop) : Prop :=
  PyData.strOk due.1 = true ∧ (¬ (due.1 = ("crowd" : Str)) → PyData.strOk due.1 = true) ∧ ifP ((due.1 = ("crowd" : Str) ∨ due.1 = ("reached" : Str))) (sameT ((eP2 D.str (eL D.int)) got) ((eP3 D.str D.int D.int) due) ∧ Q true) (Q false)

theorem tr__law_right_5 {got : (Str × (List Int))} {due : (Str × Int × Int)} {z : Int} {m : Int}  {Qt : Bool → Prop} {Xt : Exn → Prop} {P : D → Prop} {P2 : Exn → Prop}  (h : t__law_right_5 got due z m Qt Xt) (hq : ∀ r, Qt r → P (D.bl r)) (hx : ∀ e, Xt e → P2 e) : w__law_right [((eP2 D.str (eL D.int)) got), ((eP3 D.str D.int D.int) due), (D.int z), (D.int m)] P P2 := by
  unfold t__law_right_5 at h
  unfold w__law_right wpB
  show b__law_right _ [some (.d ((eP2 D.str (eL D.int)) got)), some (.d ((eP3 D.str D.int D.int) due)), some (.d (D.int z)), some (.d (D.int m))]
  unfold b__law_right
  with_reducible refine w_seq ?_
  obtain ⟨s1, h⟩ := h
  have s2 : PyData.strOk ("crowd" : Str) = true := by decide +kernel
  obtain ⟨s5, h⟩ := h
  have s4 : PyData.strOk ("reached" : Str) = true := by decide +kernel
  with_reducible refine w_ifT (p := (due.1 = ("crowd" : Str) ∨ due.1 = ("reached" : Str))) (tt_or (p := due.1 = ("crowd" : Str)) (q := due.1 = ("reached" : Str)) (tt_cmp (p := due.1 = ("crowd" : Str)) (fun _ hQ => e_op (e_op (e_v1 (e_c (y_t0 (e_c (o_eqS s1 s2 hQ)))))))) (fun hp => (tt_cmp (p := due.1 = ("reached" : Str)) (fun _ hQ => e_op (e_op (e_v1 (e_c (y_t0 (e_c (o_eqS (s5 hp) s4 hQ)))))))))) (fun c => ?_) (fun c => ?_)
  · replace h := h.1 c
    with_reducible refine w_ret (e_call (a_cons (e_v0 (a_cons (e_v1 (a_nil ?_))))))
    obtain ⟨s6, h⟩ := h
    refine tr_same s6 ?_
    exact hq true h
  · replace h := h.2 c
    with_reducible refine w_next (w_seq ?_)
    have s7 : (2 : Int) ≠ (4 : Int) := by decide
    refine w_ifTrue (tt_orF (tt_notT (tt_T (fun _ hQ => e_isT (e_v0 (k_ty_tuple_tup hQ))))) (tt_orT (tt_sT (fun _ hQ => e_op (e_cb (a_cons (e_v0 (a_nil (y_lntup2 (e_c (y_neT s7 hQ))))))))))) ?_
    with_reducible refine w_ret (e_c ?_)
    exact hq false h

noncomputable def t__law_right_6 (got : (Str × (List Int))) (due : (Str × Int × Int)) (z : Int) (m : Int) (Q : Bool → Prop) (X : Exn → Prop) : Prop :=
  PyData.strOk due.1 = true ∧ (¬ (due.1 = ("crowd" : Str)) → PyData.strOk due.1 = true) ∧ ifP ((due.1 = ("crowd" : Str) ∨ due.1 = ("reached" : Str))) (sameW ((eP2 D.str (eV D.int)) got) ((eP3 D.str D.int D.int) due) ∧ Q true) (Q false)

theorem tr__law_right_6 {got : (Str × (List Int))} {due : (Str × Int × Int)} {z : Int} {m : Int}  {Qt : Bool → Prop} {Xt : Exn → Prop} {P : D → Prop} {P2 : Exn → Prop}  (h : t__law_right_6 got due z m Qt Xt) (hq : ∀ r, Qt r → P (D.bl r)) (hx : ∀ e, Xt e → P2 e) : w__law_right [((eP2 D.str (eV D.int)) got), ((eP3 D.str D.int D.int) due), (D.int z), (D.int m)] P P2 := by
  unfold t__law_right_6 at h
  unfold w__law_right wpB
  show b__law_right _ [some (.d ((eP2 D.str (eV D.int)) got)), some (.d ((eP3 D.str D.int D.int) due)), some (.d (D.int z)), some (.d (D.int m))]
  unfold b__law_right
  with_reducible refine w_seq ?_
  obtain ⟨s1, h⟩ := h
  have s2 : PyData.strOk ("crowd" : Str) = true := by decide +kernel
  obtain ⟨s5, h⟩ := h
  have s4 : PyData.strOk ("reached" : Str) = true := by decide +kernel
  with_reducible refine w_ifT (p := (due.1 = ("crowd" : Str) ∨ due.1 = ("reached" : Str))) (tt_or (p := due.1 = ("crowd" : Str)) (q := due.1 = ("reached" : Str)) (tt_cmp (p := due.1 = ("crowd" : Str)) (fun _ hQ => e_op (e_op (e_v1 (e_c (y_t0 (e_c (o_eqS s1 s2 hQ)))))))) (fun hp => (tt_cmp (p := due.1 = ("reached" : Str)) (fun _ hQ => e_op (e_op (e_v1 (e_c (y_t0 (e_c (o_eqS (s5 hp) s4 hQ)))))))))) (fun c => ?_) (fun c => ?_)
  · replace h := h.1 c
    with_reducible refine w_ret (e_call (a_cons (e_v0 (a_cons (e_v1 (a_nil ?_))))))
    obtain ⟨s6, h⟩ := h
    refine tr_sameW s6 ?_
    exact hq true h
  · replace h := h.2 c
    with_reducible refine w_next (w_seq ?_)
    have s7 : (2 : Int) ≠ (4 : Int) := by decide
    refine w_ifTrue (tt_orF (tt_notT (tt_T (fun _ hQ => e_isT (e_v0 (k_ty_tuple_tup hQ))))) (tt_orT (tt_sT (fun _ hQ => e_op (e_cb (a_cons (e_v0 (a_nil (y_lntup2 (e_c (y_neT s7 hQ))))))))))) ?_
    with_reducible refine w_ret (e_c ?_)
    exact hq false h

noncomputable def t__law_right_7 (got : (Str × Int × Int × Int)) (due : (Str × (List Int))) (z : Int) (m : Int) (Q : Bool → Prop) (X : Exn → Prop) : Prop :=
  PyData.strOk due.1 = true ∧ (¬ (due.1 = ("crowd" : Str)) → PyData.strOk due.1 = true) ∧ ifP ((due.1 = ("crowd" : Str) ∨ due.1 = ("reached" : Str))) (sameT ((eP4 D.str D.int D.int D.int) got) ((eP2 D.str (eV D.int)) due) ∧ Q true) (ifP (¬ ((g__law_number got.2.1) = true)) (Q false) (False))

theorem tr__law_right_7 {got : (Str × Int × Int × Int)} {due : (Str × (List Int))} {z : Int} {m : Int}  {Qt : Bool → Prop} {Xt : Exn → Prop} {P : D → Prop} {P2 : Exn → Prop}  (h : t__law_right_7 got due z m Qt Xt) (hq : ∀ r, Qt r → P (D.bl r)) (hx : ∀ e, Xt e → P2 e) : w__law_right [((eP4 D.str D.int D.int D.int) got), ((eP2 D.str (eV D.int)) due), (D.int z), (D.int m)] P P2 := by
  unfold t__law_right_7 at h
  unfold w__law_right wpB
  show b__law_right _ [some (.d ((eP4 D.str D.int D.int D.int) got)), some (.d ((eP2 D.str (eV D.int)) due)), some (.d (D.int z)), some (.d (D.int m))]
  unfold b__law_right
  with_reducible refine w_seq ?_
  obtain ⟨s1, h⟩ := h
  have s2 : PyData.strOk ("crowd" : Str) = true := by decide +kernel
  obtain ⟨s5, h⟩ := h
  have s4 : PyData.strOk ("reached" : Str) = true := by decide +kernel
  with_reducible refine w_ifT (p := (due.1 = ("crowd" : Str) ∨ due.1 = ("reached" : Str))) (tt_or (p := due.1 = ("crowd" : Str)) (q := due.1 = ("reached" : Str)) (tt_cmp (p := due.1 = ("crowd" : Str)) (fun _ hQ => e_op (e_op (e_v1 (e_c (y_t0 (e_c (o_eqS s1 s2 hQ)))))))) (fun hp => (tt_cmp (p := due.1 = ("reached" : Str)) (fun _ hQ => e_op (e_op (e_v1 (e_c (y_t0 (e_c (o_eqS (s5 hp) s4 hQ)))))))))) (fun c => ?_) (fun c => ?_)
  · replace h := h.1 c
    with_reducible refine w_ret (e_call (a_cons (e_v0 (a_cons (e_v1 (a_nil ?_))))))
    obtain ⟨s6, h⟩ := h
    refine tr_same s6 ?_
    exact hq true h
  · replace h := h.2 c
    with_reducible refine w_next (w_seq ?_)
    have s7 : ¬ ((4 : Int) ≠ (4 : Int)) := by decide
    with_reducible refine w_ifT (p := ¬ ((g__law_number got.2.1) = true)) (tt_orF (tt_notT (tt_T (fun _ hQ => e_isT (e_v0 (k_ty_tuple_tup hQ))))) (tt_orF (tt_sF (fun _ hQ => e_op (e_cb (a_cons (e_v0 (a_nil (y_lntup4 (e_c (y_neF s7 hQ))))))))) (tt_not (p := (g__law_number got.2.1) = true) (tt_truB (k := (g__law_number got.2.1)) (fun _ hQ => e_call (a_cons (e_op (e_v0 (e_c (y_t1 (a_nil (pf__law_number (got := got.2.1)   hQ)))))))))))) (fun c => ?_) (fun c => ?_)
    · replace h := h.1 c
      with_reducible refine w_ret (e_c ?_)
      exact hq false h
    · replace h := h.2 c
      with_reducible refine w_next ?_
      exact False.elim h

noncomputable def t__law_right_8 (got : (Str × Int × Int × Int)) (due : (Str × (List Int))) (z : Int) (m : Int) (Q : Bool → Prop) (X : Exn → Prop) : Prop :=
  PyData.strOk due.1 = true ∧ (¬ (due.1 = ("crowd" : Str)) → PyData.strOk due.1 = true) ∧ ifP ((due.1 = ("crowd" : Str) ∨ due.1 = ("reached" : Str))) (sameT ((eP4 D.str D.int D.int D.int) got) ((eP2 D.str (eL D.int)) due) ∧ Q true) (ifP (¬ ((g__law_number got.2.1) = true)) (Q false) (False))

theorem tr__law_right_8 {got : (Str × Int × Int × Int)} {due : (Str × (List Int))} {z : Int} {m : Int}  {Qt : Bool → Prop} {Xt : Exn → Prop} {P : D → Prop} {P2 : Exn → Prop}  (h : t__law_right_8 got due z m Qt Xt) (hq : ∀ r, Qt r → P (D.bl r)) (hx : ∀ e, Xt e → P2 e) : w__law_right [((eP4 D.str D.int D.int D.int) got), ((eP2 D.str (eL D.int)) due), (D.int z), (D.int m)] P P2 := by
  unfold t__law_right_8 at h
  unfold w__law_right wpB
  show b__law_right _ [some (.d ((eP4 D.str D.int D.int D.int) got)), some (.d ((eP2 D.str (eL D.int)) due)), some (.d (D.int z)), some (.d (D.int m))]
  unfold b__law_right
  with_reducible refine w_seq ?_
  obtain ⟨s1, h⟩ := h
  have s2 : PyData.strOk ("crowd" : Str) = true := by decide +kernel
  obtain ⟨s5, h⟩ := h
  have s4 : PyData.strOk ("reached" : Str) = true := by decide +kernel
  with_reducible refine w_ifT (p := (due.1 = ("crowd" : Str) ∨ due.1 = ("reached" : Str))) (tt_or (p := due.1 = ("crowd" : Str)) (q := due.1 = ("reached" : Str)) (tt_cmp (p := due.1 = ("crowd" : Str)) (fun _ hQ => e_op (e_op (e_v1 (e_c (y_t0 (e_c (o_eqS s1 s2 hQ)))))))) (fun hp => (tt_cmp (p := due.1 = ("reached" : Str)) (fun _ hQ => e_op (e_op (e_v1 (e_c (y_t0 (e_c (o_eqS (s5 hp) s4 hQ)))))))))) (fun c => ?_) (fun c => ?_)
  · replace h := h.1 c
    with_reducible refine w_ret (e_call (a_cons (e_v0 (a_cons (e_v1 (a_nil ?_))))))
    obtain ⟨s6, h⟩ := h
    refine tr_same s6 ?_
    exact hq true h
  · replace h := h.2 c
    with_reducible refine w_next (w_seq ?_)
    have s7 : ¬ ((4 : Int) ≠ (4 : Int)) := by decide
    with_reducible refine w_ifT (p := ¬ ((g__law_number got.2.1) = true)) (tt_orF (tt_notT (tt_T (fun _ hQ => e_isT (e_v0 (k_ty_tuple_tup hQ))))) (tt_orF (tt_sF (fun _ hQ => e_op (e_cb (a_cons (e_v0 (a_nil (y_lntup4 (e_c (y_neF s7 hQ))))))))) (tt_not (p := (g__law_number got.2.1) = true) (tt_truB (k := (g__law_number got.2.1)) (fun _ hQ => e_call (a_cons (e_op (e_v0 (e_c (y_t1 (a_nil (pf__law_number (got := got.2.1)   hQ)))))))))))) (fun c => ?_) (fun c => ?_)
    · replace h := h.1 c
      with_reducible refine w_ret (e_c ?_)
      exact hq false h
    · replace h := h.2 c
      with_reducible refine w_next ?_
      exact False.elim h

noncomputable def t__law_right_9 (got : (Str × (List Int))) (due : (Str × (List Int))) (z : Int) (m : Int) (Q : Bool → Prop) (X : Exn → Prop) : Prop :=
  PyData.strOk due.1 = true ∧ (¬ (due.1 = ("crowd" : Str)) → PyData.strOk due.1 = true) ∧ ifP ((due.1 = ("crowd" : Str) ∨ due.1 = ("reached" : Str))) (sameT ((eP2 D.str (eL D.int)) got) ((eP2 D.str (eL D.int)) due) ∧ Q true) (Q false)

theorem tr__law_right_9 {got : (Str × (List Int))} {due : (Str × (List Int))} {z : Int} {m : Int}  {Qt : Bool → Prop} {Xt : Exn → Prop} {P : D → Prop} {P2 : Exn → Prop}  (h : t__law_right_9 got due z m Qt Xt) (hq : ∀ r, Qt r → P (D.bl r)) (hx : ∀ e, Xt e → P2 e) : w__law_right [((eP2 D.str (eL D.int)) got), ((eP2 D.str (eL D.int)) due), (D.int z), (D.int m)] P P2 := by
  unfold t__law_right_9 at h
  unfold w__law_right wpB
  show b__law_right _ [some (.d ((eP2 D.str (eL D.int)) got)), some (.d ((eP2 D.str (eL D.int)) due)), some (.d (D.int z)), some (.d (D.int m))]
  unfold b__law_right
  with_reducible refine w_seq ?_
  obtain ⟨s1, h⟩ := h
  have s2 : PyData.strOk ("crowd" : Str) = true := by decide +kernel
  obtain ⟨s5, h⟩ := h
  have s4 : PyData.strOk ("reached" : Str) = true := by decide +kernel
  with_reducible refine w_ifT (p := (due.1 = ("crowd" : Str) ∨ due.1 = ("reached" : Str))) (tt_or (p := due.1 = ("crowd" : Str)) (q := due.1 = ("reached" : Str)) (tt_cmp (p := due.1 = ("crowd" : Str)) (fun _ hQ => e_op (e_op (e_v1 (e_c (y_t0 (e_c (o_eqS s1 s2 hQ)))))))) (fun hp => (tt_cmp (p := due.1 = ("reached" : Str)) (fun _ hQ => e_op (e_op (e_v1 (e_c (y_t0 (e_c (o_eqS (s5 hp) s4 hQ)))))))))) (fun c => ?_) (fun c => ?_)
  · replace h := h.1 c
    with_reducible refine w_ret (e_call (a_cons (e_v0 (a_cons (e_v1 (a_nil ?_))))))
    obtain ⟨s6, h⟩ := h
    refine tr_same s6 ?_
    exact hq true h
  · replace h := h.2 c
    with_reducible refine w_next (w_seq ?_)
    have s7 : (2 : Int) ≠ (4 : Int) := by decide
    refine w_ifTrue (tt_orF (tt_notT (tt_T (fun _ hQ => e_isT (e_v0 (k_ty_tuple_tup hQ))))) (tt_orT (tt_sT (fun _ hQ => e_op (e_cb (a_cons (e_v0 (a_nil (y_lntup2 (e_c (y_neT s7 hQ))))))))))) ?_
    with_reducible refine w_ret (e_c ?_)
    exact hq false h

noncomputable def t__law_right_10 (got : (Str × (List Int))) (due : (Str × (List Int))) (z : Int) (m : Int) (Q : Bool → Prop) (X : Exn → Prop) : Prop :=
  PyData.strOk due.1 = true ∧ (¬ (due.1 = ("crowd" : Str)) → PyData.strOk due.1 = true) ∧ ifP ((due.1 = ("crowd" : Str) ∨ due.1 = ("reached" : Str))) (sameT ((eP2 D.str (eV D.int)) got) ((eP2 D.str (eV D.int)) due) ∧ Q true) (Q false)

theorem tr__law_right_10 {got : (Str × (List Int))} {due : (Str × (List Int))} {z : Int} {m : Int}  {Qt : Bool → Prop} {Xt : Exn → Prop} {P : D → Prop} {P2 : Exn → Prop}  (h : t__law_right_10 got due z m Qt Xt) (hq : ∀ r, Qt r → P (D.bl r)) (hx : ∀ e, Xt e → P2 e) : w__law_right [((eP2 D.str (eV D.int)) got), ((eP2 D.str (eV D.int)) due), (D.int z), (D.int m)] P P2 := by
  unfold t__law_right_10 at h
  unfold w__law_right wpB
  show b__law_right _ [some (.d ((eP2 D.str (eV D.int)) got)), some (.d ((eP2 D.str (eV D.int)) due)), some (.d (D.int z)), some (.d (D.int m))]
  unfold b__law_right
  with_reducible refine w_seq ?_
  obtain ⟨s1, h⟩ := h
  have s2 : PyData.strOk ("crowd" : Str) = true := by decide +kernel
  obtain ⟨s5, h⟩ := h
  have s4 : PyData.strOk ("reached" : Str) = true := by decide +kernel
  with_reducible refine w_ifT (p := (due.1 = ("crowd" : Str) ∨ due.1 = ("reached" : Str))) (tt_or (p := due.1 = ("crowd" : Str)) (q := due.1 = ("reached" : Str)) (tt_cmp (p := due.1 = ("crowd" : Str)) (fun _ hQ => e_op (e_op (e_v1 (e_c (y_t0 (e_c (o_eqS s1 s2 hQ)))))))) (fun hp => (tt_cmp (p := due.1 = ("reached" : Str)) (fun _ hQ => e_op (e_op (e_v1 (e_c (y_t0 (e_c (o_eqS (s5 hp) s4 hQ)))))))))) (fun c => ?_) (fun c => ?_)
  · replace h := h.1 c
    with_reducible refine w_ret (e_call (a_cons (e_v0 (a_cons (e_v1 (a_nil ?_))))))
    obtain ⟨s6, h⟩ := h
    refine tr_same s6 ?_
    exact hq true h
  · replace h := h.2 c
    with_reducible refine w_next (w_seq ?_)
    have s7 : (2 : Int) ≠ (4 : Int) := by decide
    refine w_ifTrue (tt_orF (tt_notT (tt_T (fun _ hQ => e_isT (e_v0 (k_ty_tuple_tup hQ))))) (tt_orT (tt_sT (fun _ hQ => e_op (e_cb (a_cons (e_v0 (a_nil (y_lntup2 (e_c (y_neT s7 hQ))))))))))) ?_
    with_reducible refine w_ret (e_c ?_)
    exact hq false h

noncomputable def t__law_twice (plan : (Int × Int × (List Int))) (depot : Dp) (span : Int) (wish : (List Int)) (Q : Bool → Prop) (X : Exn → Prop) : Prop :=
  0 < plan.1 ∧ bnd ((span % plan.1) + 1) (fun (z : Int) => t__law_counted plan span wish (fun (due2 : (Str × Int × Int × Int)) => t_reach depot span wish (fun (got2 : (Str × Int × Int × Int)) => jn (fun (k : Bool → Prop) => ifP (wish ≠ wish) (k true) (t__law_right got2 due2 z plan.1 (fun (r6 : Bool) => k (!r6)) (fun e => noVL e.ds = true ∧ X e))) (fun (b_ : Bool) => ifP (b_ = true) (Q false) (ixOk wish 0 ∧ jn (fun (k : Prop) => PyData.strOk due2.1 = true ∧ ifP (due2.1 = ("reached" : Str)) (False) (k)) (t_reach depot span wish (fun (r2 : (Str × Int × Int × Int)) => t__law_right r2 due2 z plan.1 (fun (r3 : Bool) => Q r3) X) (fun (r4 : (Str × (List Int))) => t__law_right_2 r4 due2 z plan.1 (fun (r5 : Bool) => Q r5) X) X)))) (fun (got3 : (Str × (List Int))) => jn (fun (k : Bool → Prop) => ifP (wish ≠ wish) (k true) (t__law_right_3 got3 due2 z plan.1 (fun (r12 : Bool) => k (!r12)) (fun e => noVL e.ds = true ∧ X e))) (fun (b_2 : Bool) => ifP (b_2 = true) (Q false) (ixOk wish 0 ∧ jn (fun (k : Prop) => PyData.strOk due2.1 = true ∧ ifP (due2.1 = ("reached" : Str)) (ixOk got3.2 0 ∧ (∀ got4, (got4 = got3.2 ∨ got4 = (st got3.2 0 0)) → (((got3.1, got4).2).length < szl) ∧ (∀ got5, (got5 = ((got3.1, got4).2) ∨ got5 = (((got3.1, got4).2) ++ [1])) → k))) (k)) (t_reach depot span wish (fun (r8 : (Str × Int × Int × Int)) => t__law_right r8 due2 z plan.1 (fun (r9 : Bool) => Q r9) X) (fun (r10 : (Str × (List Int))) => t__law_right_2 r10 due2 z plan.1 (fun (r11 : Bool) => Q r11) X) X)))) (fun e => noVL e.ds = true ∧ X e)) (fun (due3 : (Str × Int × Int)) => t_reach depot span wish (fun (got7 : (Str × Int × Int × Int)) => jn (fun (k : Bool → Prop) => ifP (wish ≠ wish) (k true) (t__law_right_4 got7 due3 z plan.1 (fun (r18 : Bool) => k (!r18)) (fun e => noVL e.ds = true ∧ X e))) (fun (b_3 : Bool) => ifP (b_3 = true) (Q false) (ixOk wish 0 ∧ jn (fun (k : Prop) => PyData.strOk due3.1 = true ∧ ifP (due3.1 = ("reached" : Str)) (False) (k)) (t_reach depot span wish (fun (r14 : (Str × Int × Int × Int)) => t__law_right_4 r14 due3 z plan.1 (fun (r15 : Bool) => Q r15) X) (fun (r16 : (Str × (List Int))) => t__law_right_5 r16 due3 z plan.1 (fun (r17 : Bool) => Q r17) X) X)))) (fun (got8 : (Str × (List Int))) => jn (fun (k : Bool → Prop) => ifP (wish ≠ wish) (k true) (t__law_right_6 got8 due3 z plan.1 (fun (r24 : Bool) => k (!r24)) (fun e => noVL e.ds = true ∧ X e))) (fun (b_4 : Bool) => ifP (b_4 = true) (Q false) (ixOk wish 0 ∧ jn (fun (k : Prop) => PyData.strOk due3.1 = true ∧ ifP (due3.1 = ("reached" : Str)) (ixOk got8.2 0 ∧ (∀ got9, (got9 = got8.2 ∨ got9 = (st got8.2 0 0)) → (((got8.1, got9).2).length < szl) ∧ (∀ got10, (got10 = ((got8.1, got9).2) ∨ got10 = (((got8.1, got9).2) ++ [1])) → k))) (k)) (t_reach depot span wish (fun (r20 : (Str × Int × Int × Int)) => t__law_right_4 r20 due3 z plan.1 (fun (r21 : Bool) => Q r21) X) (fun (r22 : (Str × (List Int))) => t__law_right_5 r22 due3 z plan.1 (fun (r23 : Bool) => Q r23) X) X)))) (fun e => noVL e.ds = true ∧ X e)) (fun (due4 : (Str × (List Int))) => t_reach depot span wish (fun (got12 : (Str × Int × Int × Int)) => jn (fun (k : Bool → Prop) => ifP (wish ≠ wish) (k true) (t__law_right_7 got12 due4 z plan.1 (fun (r30 : Bool) => k (!r30)) (fun e => noVL e.ds = true ∧ X e))) (fun (b_5 : Bool) => ifP (b_5 = true) (Q false) (ixOk wish 0 ∧ jn (fun (k : Prop) => PyData.strOk due4.1 = true ∧ ifP (due4.1 = ("reached" : Str)) (False) (k)) (t_reach depot span wish (fun (r26 : (Str × Int × Int × Int)) => t__law_right_8 r26 due4 z plan.1 (fun (r27 : Bool) => Q r27) X) (fun (r28 : (Str × (List Int))) => t__law_right_9 r28 due4 z plan.1 (fun (r29 : Bool) => Q r29) X) X)))) (fun (got13 : (Str × (List Int))) => jn (fun (k : Bool → Prop) => ifP (wish ≠ wish) (k true) (t__law_right_10 got13 due4 z plan.1 (fun (r36 : Bool) => k (!r36)) (fun e => noVL e.ds = true ∧ X e))) (fun (b_6 : Bool) => ifP (b_6 = true) (Q false) (ixOk wish 0 ∧ jn (fun (k : Prop) => PyData.strOk due4.1 = true ∧ ifP (due4.1 = ("reached" : Str)) (ixOk got13.2 0 ∧ (∀ got14, (got14 = got13.2 ∨ got14 = (st got13.2 0 0)) → (((got13.1, got14).2).length < szl) ∧ (∀ got15, (got15 = ((got13.1, got14).2) ∨ got15 = (((got13.1, got14).2) ++ [1])) → k))) (k)) (t_reach depot span wish (fun (r32 : (Str × Int × Int × Int)) => t__law_right_8 r32 due4 z plan.1 (fun (r33 : Bool) => Q r33) X) (fun (r34 : (Str × (List Int))) => t__law_right_9 r34 due4 z plan.1 (fun (r35 : Bool) => Q r35) X) X)))) (fun e => noVL e.ds = true ∧ X e)) X)

theorem tr__law_twice {plan : (Int × Int × (List Int))} {depot : Dp} {span : Int} {wish : (List Int)}  {Qt : Bool → Prop} {Xt : Exn → Prop} {P : D → Prop} {P2 : Exn → Prop}  (h : t__law_twice plan depot span wish Qt Xt) (hq : ∀ r, Qt r → P (D.bl r)) (hx : ∀ e, Xt e → P2 e) : w__law_twice [((eR3 D.int D.int (eL D.int)) plan), (eDp depot), (D.int span), (D.lst (List.map D.int wish))] P P2 := by
  unfold t__law_twice at h
  unfold w__law_twice wpB
  show b__law_twice _ [some (.d ((eR3 D.int D.int (eL D.int)) plan)), some (.d (eDp depot)), some (.d (D.int span)), some (.d (D.lst (List.map D.int wish))), none, none, none, none]
  unfold b__law_twice
  with_reducible refine w_seq (w_as4 ?_)
  obtain ⟨s1, h⟩ := h
  with_reducible refine e_op (e_op (e_cb (a_cons (e_v2 (a_nil (o_int (e_op (e_v0 (e_c (y_l0 (y_mod s1 (e_c (o_add ?_)))))))))))))
  refine gen_d4 D.int h ?_; clear h; intro z h
  with_reducible refine w_seq (w_as5 (e_call (a_cons (e_v0 (a_cons (e_v2 (a_cons (e_v3 (a_nil ?_)))))))))
  refine tr__law_counted (plan := plan) (span := span) (wish := wish) hdL h ?_ ?_ ?_ hx <;> clear h
  · intro due2 h
    with_reducible refine w_seq (w_ao6 (e_cb (a_cons (e_v3 (a_nil (y_list (f := D.int) (xs := wish) hdL (k_ao (w_seq (w_asT (vd_f (vd_d (d' := (eDp depot)) (vq (f := eDp) depot) (vd_d (d' := (D.int span)) rfl (vd_f (vd_f (vd_f (vd_o (vql_map (f := D.int) wish) (vd_f vd_e)))))))) (e_call (a_cons (e_v1 (a_cons (e_v2 (a_cons (e_v6 (a_nil ?_)))))))))))))))))
    refine tr_reach (depot := depot) (days := span) (wish := wish) hdV h ?_ ?_ (fun e h => And.intro h.1 (hx e h.2)) <;> clear h
    · intro got2 h
      with_reducible refine And.intro (nv (f := (eP4 D.str D.int D.int D.int)) got2) ?_
      intro T
      refine set_lit (δ' := [some (.d ((eR3 D.int D.int (eL D.int)) plan)), some (.d (eDp depot)), some (.d (D.int span)), some (.d (D.lst (List.map D.int wish))), some (.d (D.int z)), some (.d ((eP4 D.str D.int D.int D.int) due2)), some (.own none (List.map D.int wish)), some (.tree T ((eP4 D.str D.int D.int D.int) got2))]) rfl ?_
      with_reducible refine w_seq (w_if ?_)
      refine jnT h ?_ ?_ <;> clear h
      · intro b_ h
        refine w_ifB (p := b_ = true) Iff.rfl (fun c => ?_) (fun c => ?_)
        · replace h := h.1 c
          with_reducible refine w_ret (e_c ?_)
          exact hq false h
        · replace h := h.2 c
          with_reducible refine w_next (w_seq (w_si6 (e_c (e_c ?_))))
          obtain ⟨s2, h⟩ := h
          with_reducible refine y_set (f := D.int) (xs := wish) (y := 0) s2 ?_
          with_reducible refine w_seqJ (fun (k : Prop) N => ∀ (o1 : Option S), k → N [some (.d ((eR3 D.int D.int (eL D.int)) plan)), some (.d (eDp depot)), some (.d (D.int span)), some (.d (D.lst (List.map D.int wish))), some (.d (D.int z)), some (.d ((eP4 D.str D.int D.int D.int) due2)), some (.own none (List.map D.int (st wish 0 0))), o1]) h ?_ ?_ <;> clear h
          · intro o1 h
            try dsimp only at h
            with_reducible refine w_ret (e_call (a_cons (e_call (a_cons (e_v1 (a_cons (e_v2 (a_cons (e_cb (a_cons (e_v3 (a_nil (y_tuple (f := D.int) (xs := wish) hdL (a_nil ?_))))))))))))))
            refine tr_reach (depot := depot) (days := span) (wish := wish) hdT h ?_ ?_ hx <;> clear h
            · intro r2 h
              with_reducible refine a_cons (e_v5 (a_cons (e_v4 (a_cons (e_op (e_v0 (e_c (y_l0 (a_nil ?_)))))))))
              refine tr__law_right (got := r2) (due := due2) (z := z) (m := plan.1)  h ?_ hx; clear h; intro r3 h
              exact hq r3 h
            · intro r4 h
              with_reducible refine a_cons (e_v5 (a_cons (e_v4 (a_cons (e_op (e_v0 (e_c (y_l0 (a_nil ?_)))))))))
              refine tr__law_right_2 (got := r4) (due := due2) (z := z) (m := plan.1)  h ?_ hx; clear h; intro r5 h
              exact hq r5 h
          · intro k N hn h
            try dsimp only at h
            obtain ⟨s3, h⟩ := h
            have s4 : PyData.strOk ("reached" : Str) = true := by decide +kernel
            with_reducible refine w_ifT (p := due2.1 = ("reached" : Str)) (tt_cmp (p := due2.1 = ("reached" : Str)) (fun _ hQ => e_op (e_op (e_v5 (e_c (y_t0 (e_c (o_eqS s3 s4 hQ)))))))) (fun c => ?_) (fun c => ?_)
            · replace h := h.1 c
              exact False.elim h
            · replace h := h.2 c
              with_reducible refine w_next ?_
              exact hn _ h
      · intro k Q' hk h
        try dsimp only at h
        with_reducible refine t_or ?_
        refine (tt_cmp (p := wish ≠ wish) (fun _ hQ => e_op (e_vo6 (e_v3 (y_nedd (f := (eL D.int)) (a := wish) (b := wish) y_ok y_ok hQ))))) _ fun b hb => ?_
        cases b
        · replace h := h.2 (fun z => by have := hb.mpr z; cases this)
          with_reducible refine w_ff (tt_vwE (vd_d (d' := ((eW3 D.int D.int (eV D.int)) plan)) (vq (f := (eR3 D.int D.int (eL D.int))) plan) (vd_f (vd_f (vd_f (vd_d (d' := (D.int z)) rfl (vd_d (d' := ((eP4 D.str D.int D.int D.int) due2)) (vq (f := (eP4 D.str D.int D.int D.int)) due2) (vd_f (vd_t (d' := ((eP4 D.str D.int D.int D.int) got2)) (vq (f := (eP4 D.str D.int D.int D.int)) got2) vd_e)))))))) (t_not (t_truK (e_call (a_cons (e_v7 (a_cons (e_v5 (a_cons (e_v4 (a_cons (e_op (e_v0 (e_c (y_w0 (a_nil ?_))))))))))))))))
          refine tr__law_right (got := got2) (due := due2) (z := z) (m := plan.1)  h ?_ (fun e h => And.intro h.1 (hx e h.2)); clear h; intro r6 h
          with_reducible refine k_truB ?_
          exact hk (!r6) h
        · replace h := h.1 (hb.mp rfl)
          with_reducible refine w_tt ?_
          exact hk true h
    · intro got3 h
      with_reducible refine And.intro (nv (f := (eP2 D.str (eL D.int))) got3) ?_
      intro T2
      refine set_lit (δ' := [some (.d ((eR3 D.int D.int (eL D.int)) plan)), some (.d (eDp depot)), some (.d (D.int span)), some (.d (D.lst (List.map D.int wish))), some (.d (D.int z)), some (.d ((eP4 D.str D.int D.int D.int) due2)), some (.own none (List.map D.int wish)), some (.tree T2 ((eP2 D.str (eL D.int)) got3))]) rfl ?_
      with_reducible refine w_seq (w_if ?_)
      refine jnT h ?_ ?_ <;> clear h
      · intro b_2 h
        refine w_ifB (p := b_2 = true) Iff.rfl (fun c => ?_) (fun c => ?_)
        · replace h := h.1 c
          with_reducible refine w_ret (e_c ?_)
          exact hq false h
        · replace h := h.2 c
          with_reducible refine w_next (w_seq (w_si6 (e_c (e_c ?_))))
          obtain ⟨s6, h⟩ := h
          with_reducible refine y_set (f := D.int) (xs := wish) (y := 0) s6 ?_
          with_reducible refine w_seqJ (fun (k : Prop) N => ∀ (o2 : Option S), k → N [some (.d ((eR3 D.int D.int (eL D.int)) plan)), some (.d (eDp depot)), some (.d (D.int span)), some (.d (D.lst (List.map D.int wish))), some (.d (D.int z)), some (.d ((eP4 D.str D.int D.int D.int) due2)), some (.own none (List.map D.int (st wish 0 0))), o2]) h ?_ ?_ <;> clear h
          · intro o2 h
            try dsimp only at h
            with_reducible refine w_ret (e_call (a_cons (e_call (a_cons (e_v1 (a_cons (e_v2 (a_cons (e_cb (a_cons (e_v3 (a_nil (y_tuple (f := D.int) (xs := wish) hdL (a_nil ?_))))))))))))))
            refine tr_reach (depot := depot) (days := span) (wish := wish) hdT h ?_ ?_ hx <;> clear h
            · intro r8 h
              with_reducible refine a_cons (e_v5 (a_cons (e_v4 (a_cons (e_op (e_v0 (e_c (y_l0 (a_nil ?_)))))))))
              refine tr__law_right (got := r8) (due := due2) (z := z) (m := plan.1)  h ?_ hx; clear h; intro r9 h
              exact hq r9 h
            · intro r10 h
              with_reducible refine a_cons (e_v5 (a_cons (e_v4 (a_cons (e_op (e_v0 (e_c (y_l0 (a_nil ?_)))))))))
              refine tr__law_right_2 (got := r10) (due := due2) (z := z) (m := plan.1)  h ?_ hx; clear h; intro r11 h
              exact hq r11 h
          · intro k N hn h
            try dsimp only at h
            obtain ⟨s7, h⟩ := h
            have s8 : PyData.strOk ("reached" : Str) = true := by decide +kernel
            with_reducible refine w_ifT (p := due2.1 = ("reached" : Str)) (tt_cmp (p := due2.1 = ("reached" : Str)) (fun _ hQ => e_op (e_op (e_v5 (e_c (y_t0 (e_c (o_eqS s7 s8 hQ)))))))) (fun c => ?_) (fun c => ?_)
            · replace h := h.1 c
              with_reducible refine w_seq ?_
              refine w_trSet (T := T2) (d := ((eP2 D.str (eL D.int)) got3)) rfl ?_
              with_reducible refine e_c (tr_i (tr_v (e_c (k_tt1 (k_trl (e_c ?_))))))
              obtain ⟨s9, h⟩ := h
              with_reducible refine k_trJ (f := D.int) (xs := got3.2) s9 ?_
              refine k_trTL (w := got3.1) (x := got3.2) (a := got3.2) (b := (st got3.2 0 0)) rfl ml_set (fun got4 hu => ?_)
              replace h := h got4 hu
              refine set_lit (δ' := [some (.d ((eR3 D.int D.int (eL D.int)) plan)), some (.d (eDp depot)), some (.d (D.int span)), some (.d (D.lst (List.map D.int wish))), some (.d (D.int z)), some (.d ((eP4 D.str D.int D.int D.int) due2)), some (.own none (List.map D.int (st wish 0 0))), some (.tree T2 ((eP2 D.str (eL D.int)) (got3.1, got4)))]) rfl ?_
              try dsimp only
              refine w_trApp (T := T2) (d := ((eP2 D.str (eL D.int)) (got3.1, got4))) rfl ?_
              with_reducible refine tr_i (tr_v (e_c (k_tt1 (k_trl (e_c ?_)))))
              obtain ⟨s10, h⟩ := h
              with_reducible refine And.intro (by rw [List.length_map]; exact s10) ?_
              refine k_trTL (w := ((got3.1, got4).1)) (x := ((got3.1, got4).2)) (a := ((got3.1, got4).2)) (b := (((got3.1, got4).2) ++ [1])) rfl ml_app (fun got5 hu2 => ?_)
              replace h := h got5 hu2
              refine set_lit (δ' := [some (.d ((eR3 D.int D.int (eL D.int)) plan)), some (.d (eDp depot)), some (.d (D.int span)), some (.d (D.lst (List.map D.int wish))), some (.d (D.int z)), some (.d ((eP4 D.str D.int D.int D.int) due2)), some (.own none (List.map D.int (st wish 0 0))), some (.tree T2 ((eP2 D.str (eL D.int)) (((got3.1, got4).1), got5)))]) rfl ?_
              exact hn _ h
            · replace h := h.2 c
              with_reducible refine w_next ?_
              exact hn _ h
      · intro k Q' hk h
        try dsimp only at h
        with_reducible refine t_or ?_
        refine (tt_cmp (p := wish ≠ wish) (fun _ hQ => e_op (e_vo6 (e_v3 (y_nedd (f := (eL D.int)) (a := wish) (b := wish) y_ok y_ok hQ))))) _ fun b hb => ?_
        cases b
        · replace h := h.2 (fun z => by have := hb.mpr z; cases this)
          with_reducible refine w_ff (tt_vwE (vd_d (d' := ((eW3 D.int D.int (eV D.int)) plan)) (vq (f := (eR3 D.int D.int (eL D.int))) plan) (vd_f (vd_f (vd_f (vd_d (d' := (D.int z)) rfl (vd_d (d' := ((eP4 D.str D.int D.int D.int) due2)) (vq (f := (eP4 D.str D.int D.int D.int)) due2) (vd_f (vd_t (d' := ((eP2 D.str (eV D.int)) got3)) (vq (f := (eP2 D.str (eL D.int))) got3) vd_e)))))))) (t_not (t_truK (e_call (a_cons (e_v7 (a_cons (e_v5 (a_cons (e_v4 (a_cons (e_op (e_v0 (e_c (y_w0 (a_nil ?_))))))))))))))))
          refine tr__law_right_3 (got := got3) (due := due2) (z := z) (m := plan.1)  h ?_ (fun e h => And.intro h.1 (hx e h.2)); clear h; intro r12 h
          with_reducible refine k_truB ?_
          exact hk (!r12) h
        · replace h := h.1 (hb.mp rfl)
          with_reducible refine w_tt ?_
          exact hk true h
  · intro due3 h
    with_reducible refine w_seq (w_ao6 (e_cb (a_cons (e_v3 (a_nil (y_list (f := D.int) (xs := wish) hdL (k_ao (w_seq (w_asT (vd_f (vd_d (d' := (eDp depot)) (vq (f := eDp) depot) (vd_d (d' := (D.int span)) rfl (vd_f (vd_f (vd_f (vd_o (vql_map (f := D.int) wish) (vd_f vd_e)))))))) (e_call (a_cons (e_v1 (a_cons (e_v2 (a_cons (e_v6 (a_nil ?_)))))))))))))))))
    refine tr_reach (depot := depot) (days := span) (wish := wish) hdV h ?_ ?_ (fun e h => And.intro h.1 (hx e h.2)) <;> clear h
    · intro got7 h
      with_reducible refine And.intro (nv (f := (eP4 D.str D.int D.int D.int)) got7) ?_
      intro T3
      refine set_lit (δ' := [some (.d ((eR3 D.int D.int (eL D.int)) plan)), some (.d (eDp depot)), some (.d (D.int span)), some (.d (D.lst (List.map D.int wish))), some (.d (D.int z)), some (.d ((eP3 D.str D.int D.int) due3)), some (.own none (List.map D.int wish)), some (.tree T3 ((eP4 D.str D.int D.int D.int) got7))]) rfl ?_
      with_reducible refine w_seq (w_if ?_)
      refine jnT h ?_ ?_ <;> clear h
      · intro b_3 h
        refine w_ifB (p := b_3 = true) Iff.rfl (fun c => ?_) (fun c => ?_)
        · replace h := h.1 c
          with_reducible refine w_ret (e_c ?_)
          exact hq false h
        · replace h := h.2 c
          with_reducible refine w_next (w_seq (w_si6 (e_c (e_c ?_))))
          obtain ⟨s11, h⟩ := h
          with_reducible refine y_set (f := D.int) (xs := wish) (y := 0) s11 ?_
          with_reducible refine w_seqJ (fun (k : Prop) N => ∀ (o3 : Option S), k → N [some (.d ((eR3 D.int D.int (eL D.int)) plan)), some (.d (eDp depot)), some (.d (D.int span)), some (.d (D.lst (List.map D.int wish))), some (.d (D.int z)), some (.d ((eP3 D.str D.int D.int) due3)), some (.own none (List.map D.int (st wish 0 0))), o3]) h ?_ ?_ <;> clear h
          · intro o3 h
            try dsimp only at h
            with_reducible refine w_ret (e_call (a_cons (e_call (a_cons (e_v1 (a_cons (e_v2 (a_cons (e_cb (a_cons (e_v3 (a_nil (y_tuple (f := D.int) (xs := wish) hdL (a_nil ?_))))))))))))))
            refine tr_reach (depot := depot) (days := span) (wish := wish) hdT h ?_ ?_ hx <;> clear h
            · intro r14 h
              with_reducible refine a_cons (e_v5 (a_cons (e_v4 (a_cons (e_op (e_v0 (e_c (y_l0 (a_nil ?_)))))))))
              refine tr__law_right_4 (got := r14) (due := due3) (z := z) (m := plan.1)  h ?_ hx; clear h; intro r15 h
              exact hq r15 h
            · intro r16 h
              with_reducible refine a_cons (e_v5 (a_cons (e_v4 (a_cons (e_op (e_v0 (e_c (y_l0 (a_nil ?_)))))))))
              refine tr__law_right_5 (got := r16) (due := due3) (z := z) (m := plan.1)  h ?_ hx; clear h; intro r17 h
              exact hq r17 h
          · intro k N hn h
            try dsimp only at h
            obtain ⟨s12, h⟩ := h
            have s13 : PyData.strOk ("reached" : Str) = true := by decide +kernel
            with_reducible refine w_ifT (p := due3.1 = ("reached" : Str)) (tt_cmp (p := due3.1 = ("reached" : Str)) (fun _ hQ => e_op (e_op (e_v5 (e_c (y_t0 (e_c (o_eqS s12 s13 hQ)))))))) (fun c => ?_) (fun c => ?_)
            · replace h := h.1 c
              exact False.elim h
            · replace h := h.2 c
              with_reducible refine w_next ?_
              exact hn _ h
      · intro k Q' hk h
        try dsimp only at h
        with_reducible refine t_or ?_
        refine (tt_cmp (p := wish ≠ wish) (fun _ hQ => e_op (e_vo6 (e_v3 (y_nedd (f := (eL D.int)) (a := wish) (b := wish) y_ok y_ok hQ))))) _ fun b hb => ?_
        cases b
        · replace h := h.2 (fun z => by have := hb.mpr z; cases this)
          with_reducible refine w_ff (tt_vwE (vd_d (d' := ((eW3 D.int D.int (eV D.int)) plan)) (vq (f := (eR3 D.int D.int (eL D.int))) plan) (vd_f (vd_f (vd_f (vd_d (d' := (D.int z)) rfl (vd_d (d' := ((eP3 D.str D.int D.int) due3)) (vq (f := (eP3 D.str D.int D.int)) due3) (vd_f (vd_t (d' := ((eP4 D.str D.int D.int D.int) got7)) (vq (f := (eP4 D.str D.int D.int D.int)) got7) vd_e)))))))) (t_not (t_truK (e_call (a_cons (e_v7 (a_cons (e_v5 (a_cons (e_v4 (a_cons (e_op (e_v0 (e_c (y_w0 (a_nil ?_))))))))))))))))
          refine tr__law_right_4 (got := got7) (due := due3) (z := z) (m := plan.1)  h ?_ (fun e h => And.intro h.1 (hx e h.2)); clear h; intro r18 h
          with_reducible refine k_truB ?_
          exact hk (!r18) h
        · replace h := h.1 (hb.mp rfl)
          with_reducible refine w_tt ?_
          exact hk true h
    · intro got8 h
      with_reducible refine And.intro (nv (f := (eP2 D.str (eL D.int))) got8) ?_
      intro T4
      refine set_lit (δ' := [some (.d ((eR3 D.int D.int (eL D.int)) plan)), some (.d (eDp depot)), some (.d (D.int span)), some (.d (D.lst (List.map D.int wish))), some (.d (D.int z)), some (.d ((eP3 D.str D.int D.int) due3)), some (.own none (List.map D.int wish)), some (.tree T4 ((eP2 D.str (eL D.int)) got8))]) rfl ?_
      with_reducible refine w_seq (w_if ?_)
      refine jnT h ?_ ?_ <;> clear h
      · intro b_4 h
        refine w_ifB (p := b_4 = true) Iff.rfl (fun c => ?_) (fun c => ?_)
        · replace h := h.1 c
          with_reducible refine w_ret (e_c ?_)
          exact hq false h
        · replace h := h.2 c
          with_reducible refine w_next (w_seq (w_si6 (e_c (e_c ?_))))
          obtain ⟨s15, h⟩ := h
          with_reducible refine y_set (f := D.int) (xs := wish) (y := 0) s15 ?_
          with_reducible refine w_seqJ (fun (k : Prop) N => ∀ (o4 : Option S), k → N [some (.d ((eR3 D.int D.int (eL D.int)) plan)), some (.d (eDp depot)), some (.d (D.int span)), some (.d (D.lst (List.map D.int wish))), some (.d (D.int z)), some (.d ((eP3 D.str D.int D.int) due3)), some (.own none (List.map D.int (st wish 0 0))), o4]) h ?_ ?_ <;> clear h
          · intro o4 h
            try dsimp only at h
            with_reducible refine w_ret (e_call (a_cons (e_call (a_cons (e_v1 (a_cons (e_v2 (a_cons (e_cb (a_cons (e_v3 (a_nil (y_tuple (f := D.int) (xs := wish) hdL (a_nil ?_))))))))))))))
            refine tr_reach (depot := depot) (days := span) (wish := wish) hdT h ?_ ?_ hx <;> clear h
            · intro r20 h
              with_reducible refine a_cons (e_v5 (a_cons (e_v4 (a_cons (e_op (e_v0 (e_c (y_l0 (a_nil ?_)))))))))
              refine tr__law_right_4 (got := r20) (due := due3) (z := z) (m := plan.1)  h ?_ hx; clear h; intro r21 h
              exact hq r21 h
            · intro r22 h
              with_reducible refine a_cons (e_v5 (a_cons (e_v4 (a_cons (e_op (e_v0 (e_c (y_l0 (a_nil ?_)))))))))
              refine tr__law_right_5 (got := r22) (due := due3) (z := z) (m := plan.1)  h ?_ hx; clear h; intro r23 h
              exact hq r23 h
          · intro k N hn h
            try dsimp only at h
            obtain ⟨s16, h⟩ := h
            have s17 : PyData.strOk ("reached" : Str) = true := by decide +kernel
            with_reducible refine w_ifT (p := due3.1 = ("reached" : Str)) (tt_cmp (p := due3.1 = ("reached" : Str)) (fun _ hQ => e_op (e_op (e_v5 (e_c (y_t0 (e_c (o_eqS s16 s17 hQ)))))))) (fun c => ?_) (fun c => ?_)
            · replace h := h.1 c
              with_reducible refine w_seq ?_
              refine w_trSet (T := T4) (d := ((eP2 D.str (eL D.int)) got8)) rfl ?_
              with_reducible refine e_c (tr_i (tr_v (e_c (k_tt1 (k_trl (e_c ?_))))))
              obtain ⟨s18, h⟩ := h
              with_reducible refine k_trJ (f := D.int) (xs := got8.2) s18 ?_
              refine k_trTL (w := got8.1) (x := got8.2) (a := got8.2) (b := (st got8.2 0 0)) rfl ml_set (fun got9 hu3 => ?_)
              replace h := h got9 hu3
              refine set_lit (δ' := [some (.d ((eR3 D.int D.int (eL D.int)) plan)), some (.d (eDp depot)), some (.d (D.int span)), some (.d (D.lst (List.map D.int wish))), some (.d (D.int z)), some (.d ((eP3 D.str D.int D.int) due3)), some (.own none (List.map D.int (st wish 0 0))), some (.tree T4 ((eP2 D.str (eL D.int)) (got8.1, got9)))]) rfl ?_
              try dsimp only
              refine w_trApp (T := T4) (d := ((eP2 D.str (eL D.int)) (got8.1, got9))) rfl ?_
              with_reducible refine tr_i (tr_v (e_c (k_tt1 (k_trl (e_c ?_)))))
              obtain ⟨s19, h⟩ := h
              with_reducible refine And.intro (by rw [List.length_map]; exact s19) ?_
              refine k_trTL (w := ((got8.1, got9).1)) (x := ((got8.1, got9).2)) (a := ((got8.1, got9).2)) (b := (((got8.1, got9).2) ++ [1])) rfl ml_app (fun got10 hu4 => ?_)
              replace h := h got10 hu4
              refine set_lit (δ' := [some (.d ((eR3 D.int D.int (eL D.int)) plan)), some (.d (eDp depot)), some (.d (D.int span)), some (.d (D.lst (List.map D.int wish))), some (.d (D.int z)), some (.d ((eP3 D.str D.int D.int) due3)), some (.own none (List.map D.int (st wish 0 0))), some (.tree T4 ((eP2 D.str (eL D.int)) (((got8.1, got9).1), got10)))]) rfl ?_
              exact hn _ h
            · replace h := h.2 c
              with_reducible refine w_next ?_
              exact hn _ h
      · intro k Q' hk h
        try dsimp only at h
        with_reducible refine t_or ?_
        refine (tt_cmp (p := wish ≠ wish) (fun _ hQ => e_op (e_vo6 (e_v3 (y_nedd (f := (eL D.int)) (a := wish) (b := wish) y_ok y_ok hQ))))) _ fun b hb => ?_
        cases b
        · replace h := h.2 (fun z => by have := hb.mpr z; cases this)
          with_reducible refine w_ff (tt_vwE (vd_d (d' := ((eW3 D.int D.int (eV D.int)) plan)) (vq (f := (eR3 D.int D.int (eL D.int))) plan) (vd_f (vd_f (vd_f (vd_d (d' := (D.int z)) rfl (vd_d (d' := ((eP3 D.str D.int D.int) due3)) (vq (f := (eP3 D.str D.int D.int)) due3) (vd_f (vd_t (d' := ((eP2 D.str (eV D.int)) got8)) (vq (f := (eP2 D.str (eL D.int))) got8) vd_e)))))))) (t_not (t_truK (e_call (a_cons (e_v7 (a_cons (e_v5 (a_cons (e_v4 (a_cons (e_op (e_v0 (e_c (y_w0 (a_nil ?_))))))))))))))))
          refine tr__law_right_6 (got := got8) (due := due3) (z := z) (m := plan.1)  h ?_ (fun e h => And.intro h.1 (hx e h.2)); clear h; intro r24 h
          with_reducible refine k_truB ?_
          exact hk (!r24) h
        · replace h := h.1 (hb.mp rfl)
          with_reducible refine w_tt ?_
          exact hk true h
  · intro due4 h
    with_reducible refine w_seq (w_ao6 (e_cb (a_cons (e_v3 (a_nil (y_list (f := D.int) (xs := wish) hdL (k_ao (w_seq (w_asT (vd_f (vd_d (d' := (eDp depot)) (vq (f := eDp) depot) (vd_d (d' := (D.int span)) rfl (vd_f (vd_f (vd_f (vd_o (vql_map (f := D.int) wish) (vd_f vd_e)))))))) (e_call (a_cons (e_v1 (a_cons (e_v2 (a_cons (e_v6 (a_nil ?_)))))))))))))))))
    refine tr_reach (depot := depot) (days := span) (wish := wish) hdV h ?_ ?_ (fun e h => And.intro h.1 (hx e h.2)) <;> clear h
    · intro got12 h
      with_reducible refine And.intro (nv (f := (eP4 D.str D.int D.int D.int)) got12) ?_
      intro T5
      refine set_lit (δ' := [some (.d ((eR3 D.int D.int (eL D.int)) plan)), some (.d (eDp depot)), some (.d (D.int span)), some (.d (D.lst (List.map D.int wish))), some (.d (D.int z)), some (.d ((eP2 D.str (eL D.int)) due4)), some (.own none (List.map D.int wish)), some (.tree T5 ((eP4 D.str D.int D.int D.int) got12))]) rfl ?_
      with_reducible refine w_seq (w_if ?_)
      refine jnT h ?_ ?_ <;> clear h
      · intro b_5 h
        refine w_ifB (p := b_5 = true) Iff.rfl (fun c => ?_) (fun c => ?_)
        · replace h := h.1 c
          with_reducible refine w_ret (e_c ?_)
          exact hq false h
        · replace h := h.2 c
          with_reducible refine w_next (w_seq (w_si6 (e_c (e_c ?_))))
          obtain ⟨s20, h⟩ := h
          with_reducible refine y_set (f := D.int) (xs := wish) (y := 0) s20 ?_
          with_reducible refine w_seqJ (fun (k : Prop) N => ∀ (o5 : Option S), k → N [some (.d ((eR3 D.int D.int (eL D.int)) plan)), some (.d (eDp depot)), some (.d (D.int span)), some (.d (D.lst (List.map D.int wish))), some (.d (D.int z)), some (.d ((eP2 D.str (eL D.int)) due4)), some (.own none (List.map D.int (st wish 0 0))), o5]) h ?_ ?_ <;> clear h
          · intro o5 h
            try dsimp only at h
            with_reducible refine w_ret (e_call (a_cons (e_call (a_cons (e_v1 (a_cons (e_v2 (a_cons (e_cb (a_cons (e_v3 (a_nil (y_tuple (f := D.int) (xs := wish) hdL (a_nil ?_))))))))))))))
            refine tr_reach (depot := depot) (days := span) (wish := wish) hdT h ?_ ?_ hx <;> clear h
            · intro r26 h
              with_reducible refine a_cons (e_v5 (a_cons (e_v4 (a_cons (e_op (e_v0 (e_c (y_l0 (a_nil ?_)))))))))
              refine tr__law_right_8 (got := r26) (due := due4) (z := z) (m := plan.1)  h ?_ hx; clear h; intro r27 h
              exact hq r27 h
            · intro r28 h
              with_reducible refine a_cons (e_v5 (a_cons (e_v4 (a_cons (e_op (e_v0 (e_c (y_l0 (a_nil ?_)))))))))
              refine tr__law_right_9 (got := r28) (due := due4) (z := z) (m := plan.1)  h ?_ hx; clear h; intro r29 h
              exact hq r29 h
          · intro k N hn h
            try dsimp only at h
            obtain ⟨s21, h⟩ := h
            have s22 : PyData.strOk ("reached" : Str) = true := by decide +kernel
            with_reducible refine w_ifT (p := due4.1 = ("reached" : Str)) (tt_cmp (p := due4.1 = ("reached" : Str)) (fun _ hQ => e_op (e_op (e_v5 (e_c (y_t0 (e_c (o_eqS s21 s22 hQ)))))))) (fun c => ?_) (fun c => ?_)
            · replace h := h.1 c
              exact False.elim h
            · replace h := h.2 c
              with_reducible refine w_next ?_
              exact hn _ h
      · intro k Q' hk h
        try dsimp only at h
        with_reducible refine t_or ?_
        refine (tt_cmp (p := wish ≠ wish) (fun _ hQ => e_op (e_vo6 (e_v3 (y_nedd (f := (eL D.int)) (a := wish) (b := wish) y_ok y_ok hQ))))) _ fun b hb => ?_
        cases b
        · replace h := h.2 (fun z => by have := hb.mpr z; cases this)
          with_reducible refine w_ff (tt_vwE (vd_d (d' := ((eW3 D.int D.int (eV D.int)) plan)) (vq (f := (eR3 D.int D.int (eL D.int))) plan) (vd_f (vd_f (vd_f (vd_d (d' := (D.int z)) rfl (vd_d (d' := ((eP2 D.str (eV D.int)) due4)) (vq (f := (eP2 D.str (eL D.int))) due4) (vd_f (vd_t (d' := ((eP4 D.str D.int D.int D.int) got12)) (vq (f := (eP4 D.str D.int D.int D.int)) got12) vd_e)))))))) (t_not (t_truK (e_call (a_cons (e_v7 (a_cons (e_v5 (a_cons (e_v4 (a_cons (e_op (e_v0 (e_c (y_w0 (a_nil ?_))))))))))))))))
          refine tr__law_right_7 (got := got12) (due := due4) (z := z) (m := plan.1)  h ?_ (fun e h => And.intro h.1 (hx e h.2)); clear h; intro r30 h
          with_reducible refine k_truB ?_
          exact hk (!r30) h
        · replace h := h.1 (hb.mp rfl)
          with_reducible refine w_tt ?_
          exact hk true h
    · intro got13 h
      with_reducible refine And.intro (nv (f := (eP2 D.str (eL D.int))) got13) ?_
      intro T6
      refine set_lit (δ' := [some (.d ((eR3 D.int D.int (eL D.int)) plan)), some (.d (eDp depot)), some (.d (D.int span)), some (.d (D.lst (List.map D.int wish))), some (.d (D.int z)), some (.d ((eP2 D.str (eL D.int)) due4)), some (.own none (List.map D.int wish)), some (.tree T6 ((eP2 D.str (eL D.int)) got13))]) rfl ?_
      with_reducible refine w_seq (w_if ?_)
      refine jnT h ?_ ?_ <;> clear h
      · intro b_6 h
        refine w_ifB (p := b_6 = true) Iff.rfl (fun c => ?_) (fun c => ?_)
        · replace h := h.1 c
          with_reducible refine w_ret (e_c ?_)
          exact hq false h
        · replace h := h.2 c
          with_reducible refine w_next (w_seq (w_si6 (e_c (e_c ?_))))
          obtain ⟨s24, h⟩ := h
          with_reducible refine y_set (f := D.int) (xs := wish) (y := 0) s24 ?_
          with_reducible refine w_seqJ (fun (k : Prop) N => ∀ (o6 : Option S), k → N [some (.d ((eR3 D.int D.int (eL D.int)) plan)), some (.d (eDp depot)), some (.d (D.int span)), some (.d (D.lst (List.map D.int wish))), some (.d (D.int z)), some (.d ((eP2 D.str (eL D.int)) due4)), some (.own none (List.map D.int (st wish 0 0))), o6]) h ?_ ?_ <;> clear h
          · intro o6 h
            try dsimp only at h
            with_reducible refine w_ret (e_call (a_cons (e_call (a_cons (e_v1 (a_cons (e_v2 (a_cons (e_cb (a_cons (e_v3 (a_nil (y_tuple (f := D.int) (xs := wish) hdL (a_nil ?_))))))))))))))
            refine tr_reach (depot := depot) (days := span) (wish := wish) hdT h ?_ ?_ hx <;> clear h
            · intro r32 h
              with_reducible refine a_cons (e_v5 (a_cons (e_v4 (a_cons (e_op (e_v0 (e_c (y_l0 (a_nil ?_)))))))))
              refine tr__law_right_8 (got := r32) (due := due4) (z := z) (m := plan.1)  h ?_ hx; clear h; intro r33 h
              exact hq r33 h
            · intro r34 h
              with_reducible refine a_cons (e_v5 (a_cons (e_v4 (a_cons (e_op (e_v0 (e_c (y_l0 (a_nil ?_)))))))))
              refine tr__law_right_9 (got := r34) (due := due4) (z := z) (m := plan.1)  h ?_ hx; clear h; intro r35 h
              exact hq r35 h
          · intro k N hn h
            try dsimp only at h
            obtain ⟨s25, h⟩ := h
            have s26 : PyData.strOk ("reached" : Str) = true := by decide +kernel
            with_reducible refine w_ifT (p := due4.1 = ("reached" : Str)) (tt_cmp (p := due4.1 = ("reached" : Str)) (fun _ hQ => e_op (e_op (e_v5 (e_c (y_t0 (e_c (o_eqS s25 s26 hQ)))))))) (fun c => ?_) (fun c => ?_)
            · replace h := h.1 c
              with_reducible refine w_seq ?_
              refine w_trSet (T := T6) (d := ((eP2 D.str (eL D.int)) got13)) rfl ?_
              with_reducible refine e_c (tr_i (tr_v (e_c (k_tt1 (k_trl (e_c ?_))))))
              obtain ⟨s27, h⟩ := h
              with_reducible refine k_trJ (f := D.int) (xs := got13.2) s27 ?_
              refine k_trTL (w := got13.1) (x := got13.2) (a := got13.2) (b := (st got13.2 0 0)) rfl ml_set (fun got14 hu5 => ?_)
              replace h := h got14 hu5
              refine set_lit (δ' := [some (.d ((eR3 D.int D.int (eL D.int)) plan)), some (.d (eDp depot)), some (.d (D.int span)), some (.d (D.lst (List.map D.int wish))), some (.d (D.int z)), some (.d ((eP2 D.str (eL D.int)) due4)), some (.own none (List.map D.int (st wish 0 0))), some (.tree T6 ((eP2 D.str (eL D.int)) (got13.1, got14)))]) rfl ?_
              try dsimp only
              refine w_trApp (T := T6) (d := ((eP2 D.str (eL D.int)) (got13.1, got14))) rfl ?_
              with_reducible refine tr_i (tr_v (e_c (k_tt1 (k_trl (e_c ?_)))))
              obtain ⟨s28, h⟩ := h
              with_reducible refine And.intro (by rw [List.length_map]; exact s28) ?_
              refine k_trTL (w := ((got13.1, got14).1)) (x := ((got13.1, got14).2)) (a := ((got13.1, got14).2)) (b := (((got13.1, got14).2) ++ [1])) rfl ml_app (fun got15 hu6 => ?_)
              replace h := h got15 hu6
              refine set_lit (δ' := [some (.d ((eR3 D.int D.int (eL D.int)) plan)), some (.d (eDp depot)), some (.d (D.int span)), some (.d (D.lst (List.map D.int wish))), some (.d (D.int z)), some (.d ((eP2 D.str (eL D.int)) due4)), some (.own none (List.map D.int (st wish 0 0))), some (.tree T6 ((eP2 D.str (eL D.int)) (((got13.1, got14).1), got15)))]) rfl ?_
              exact hn _ h
            · replace h := h.2 c
              with_reducible refine w_next ?_
              exact hn _ h
      · intro k Q' hk h
        try dsimp only at h
        with_reducible refine t_or ?_
        refine (tt_cmp (p := wish ≠ wish) (fun _ hQ => e_op (e_vo6 (e_v3 (y_nedd (f := (eL D.int)) (a := wish) (b := wish) y_ok y_ok hQ))))) _ fun b hb => ?_
        cases b
        · replace h := h.2 (fun z => by have := hb.mpr z; cases this)
          with_reducible refine w_ff (tt_vwE (vd_d (d' := ((eW3 D.int D.int (eV D.int)) plan)) (vq (f := (eR3 D.int D.int (eL D.int))) plan) (vd_f (vd_f (vd_f (vd_d (d' := (D.int z)) rfl (vd_d (d' := ((eP2 D.str (eV D.int)) due4)) (vq (f := (eP2 D.str (eL D.int))) due4) (vd_f (vd_t (d' := ((eP2 D.str (eV D.int)) got13)) (vq (f := (eP2 D.str (eL D.int))) got13) vd_e)))))))) (t_not (t_truK (e_call (a_cons (e_v7 (a_cons (e_v5 (a_cons (e_v4 (a_cons (e_op (e_v0 (e_c (y_w0 (a_nil ?_))))))))))))))))
          refine tr__law_right_10 (got := got13) (due := due4) (z := z) (m := plan.1)  h ?_ (fun e h => And.intro h.1 (hx e h.2)); clear h; intro r36 h
          with_reducible refine k_truB ?_
          exact hk (!r36) h
        · replace h := h.1 (hb.mp rfl)
          with_reducible refine w_tt ?_
          exact hk true h

noncomputable def t_law (script : (List Int)) (Q : Bool → Prop) (X : Exn → Prop) : Prop :=
  t__law_depot 12 8 (fun (plan : (Int × Int × (List Int))) => jn (fun (k : (Int × Int × (List Int)) → Prop) => takeT 2 (fun (r4 : Int) => ifP (r4 = 1) (t__law_steep 8 (fun (plan3 : (Int × Int × (List Int))) => k plan3) X) (k plan))) (fun (plan2 : (Int × Int × (List Int))) => takeOk plan2.1 ∧ takeT plan2.1 (fun (r1 : Int) => bnd (1 + r1) (fun (z : Int) => takeT 14 (fun (j : Int) => jn (fun (k : Int → Prop) => takeT 4 (fun (r3 : Int) => ifP (r3 = 3) (divT plan2.1 ∧ t__law_great (((1000000000000000000000000000000 - z) + 1) / plan2.1) (fun (j3 : Int) => k j3) X) (k j))) (fun (j2 : Int) => mulT plan2.1 j2 ∧ t__law_everybody plan2 (((plan2.1 * j2) + z) - 1) (fun (wish : (List Int)) => t__law_fewest plan2 z wish (fun (fewest : Int) => t_DepotU_initU plan2.1 plan2.2.1 plan2.2.2 (fun (depot : Dp) => forK ([j2, fewest, (fewest - 1), j2] : List Int) (fun (many : Int) (k : Prop) => jn (fun (k : Bool → Prop) => ifP (0 ≤ many) (mulT plan2.1 many ∧ t__law_twice plan2 depot (((plan2.1 * many) + z) - 1) wish (fun (r2 : Bool) => k (!r2)) X) (k false)) (fun (b_ : Bool) => ifP (b_ = true) (Q false) (k))) (Q true)) X) X) X)))))) X

theorem tr_law {script : (List Int)}  {Qt : Bool → Prop} {Xt : Exn → Prop} {P : D → Prop} {P2 : Exn → Prop}  (hscript : script.length ≤ 63) (h : t_law script Qt Xt) (hq : ∀ r, Qt r → P (D.bl r)) (hx : ∀ e, Xt e → P2 e) : w_law [(D.script script)] P P2 := by
  unfold t_law at h
  unfold w_law wpB
  show b_law _ [some (.d (D.script script)), none, none, none, none, none, none, none, none, none]
  unfold b_law
  with_reducible refine w_seq (w_as1 (e_call (a_cons (e_v0 (a_nil ?_)))))
  refine fnew hscript ?_
  with_reducible refine w_seq (w_as2 (e_call (a_cons (e_v1 (a_cons (e_c (a_cons (e_c (a_nil ?_)))))))))
  refine tr__law_depot (drivers := 12) (period := 8)  h ?_ hx; clear h; intro plan h
  with_reducible refine w_seqJ (fun (k : (Int × Int × (List Int)) → Prop) N => ∀ (plan2 : (Int × Int × (List Int))), k plan2 → N [some (.d (D.script script)), some (.d D.pool), some (.d ((eR3 D.int D.int (eL D.int)) plan2)), none, none, none, none, none, none, none]) h ?_ ?_ <;> clear h
  · intro plan2 h
    try dsimp only at h
    with_reducible refine w_seq (w_as3 (e_op (e_v2 (e_c (y_l0 (w_seq (w_as4 (e_op (e_c (e_call (a_cons (e_v1 (a_cons (e_v3 (a_nil ?_)))))))))))))))
    obtain ⟨s1, h⟩ := h
    refine tr_take s1 h ?_; clear h; intro r1 h
    with_reducible refine o_add ?_
    refine gen_d4 D.int h ?_; clear h; intro z h
    with_reducible refine w_seq (w_as5 (e_call (a_cons (e_v1 (a_cons (e_c (a_nil ?_)))))))
    have s2 : takeOk 14 := ⟨by decide, by decide⟩
    refine tr_take s2 h ?_; clear h; intro j h
    with_reducible refine w_seqJ (fun (k : Int → Prop) N => ∀ (j2 : Int), k j2 → N [some (.d (D.script script)), some (.d D.pool), some (.d ((eR3 D.int D.int (eL D.int)) plan2)), some (.d (D.int plan2.1)), some (.d (D.int z)), some (.d (D.int j2)), none, none, none, none]) h ?_ ?_ <;> clear h
    · intro j2 h
      try dsimp only at h
      with_reducible refine w_seq (w_as6 (e_call (a_cons (e_v1 (a_cons (e_v2 (a_cons ?_)))))))
      obtain ⟨s4, h⟩ := h
      with_reducible refine e_op (e_op (e_op (e_v3 (e_v5 (y_mul s4 (e_v4 (o_add (e_c (o_sub (a_nil ?_))))))))))
      refine tr__law_everybody (plan := plan2) (span := (((plan2.1 * j2) + z) - 1))  h ?_ hx; clear h; intro wish h
      with_reducible refine w_seq (w_as7 (e_call (a_cons (e_v2 (a_cons (e_v4 (a_cons (e_v6 (a_nil ?_)))))))))
      refine tr__law_fewest (plan := plan2) (z := z) (wish := wish) hdL h ?_ hx; clear h; intro fewest h
      with_reducible refine w_seq (w_as8 (e_make (a_cons (e_op (e_v2 (e_c (y_l0 (a_cons (e_op (e_v2 (e_c (y_l1 (a_cons (e_cb (a_cons (e_op (e_v2 (e_c (y_l2 (a_nil (y_list (f := D.int) (xs := plan2.2.2) hdL (a_nil ?_))))))))))))))))))))))
      refine tr_DepotU_initU (period := plan2.1) (quota := plan2.2.1) (firsts := plan2.2.2) hdL h ?_ hx; clear h; intro depot h
      with_reducible refine w_seq (w_for (y_it (fun _ hQ => e_lstK (a_cons (e_v5 (a_cons (e_v7 (a_cons (e_op (e_v7 (e_c (o_sub (a_cons (e_v5 (a_nil (y_mk4 (f := D.int) (a0 := j2) (a1 := fewest) (a2 := (fewest - 1)) (a3 := j2) hQ)))))))))))))) (f := D.int) (xs := ([j2, fewest, (fewest - 1), j2] : List Int)) hdL ?_))
      refine w_forK D.int (fun (k : Prop) N => ∀ (o1 : Option S), k → N [some (.d (D.script script)), some (.d D.pool), some (.d ((eR3 D.int D.int (eL D.int)) plan2)), some (.d (D.int plan2.1)), some (.d (D.int z)), some (.d (D.int j2)), some (.d (D.lst (List.map D.int wish))), some (.d (D.int fewest)), some (.d (eDp depot)), o1]) ?_ ?_  _ h <;> clear h
      · intro o1 h
        try dsimp only at h
        with_reducible refine w_ret (e_c ?_)
        exact hq true h
      · intro many k N hn o1 h
        try dsimp only at h
        with_reducible refine g_n9 (w_if ?_)
        refine jnT h ?_ ?_ <;> clear h
        · intro b_ h
          refine w_ifB (p := b_ = true) Iff.rfl (fun c => ?_) (fun c => ?_)
          · replace h := h.1 c
            with_reducible refine w_ret (e_c ?_)
            exact hq false h
          · replace h := h.2 c
            with_reducible refine w_next ?_
            exact hn _ h
        · intro k Q' hk h
          try dsimp only at h
          with_reducible refine t_and ?_
          refine (tt_cmp (p := 0 ≤ many) (fun _ hQ => e_op (e_v9 (e_c (o_ge hQ))))) _ fun b hb => ?_
          cases b
          · replace h := h.2 (fun z => by have := hb.mpr z; cases this)
            with_reducible refine w_ff ?_
            exact hk false h
          · replace h := h.1 (hb.mp rfl)
            with_reducible refine w_tt (t_not (t_truK (e_call (a_cons (e_v2 (a_cons (e_v8 (a_cons ?_))))))))
            obtain ⟨s10, h⟩ := h
            with_reducible refine e_op (e_op (e_op (e_v3 (e_v9 (y_mul s10 (e_v4 (o_add (e_c (o_sub (a_cons (e_v6 (a_nil ?_))))))))))))
            refine tr__law_twice (plan := plan2) (depot := depot) (span := (((plan2.1 * many) + z) - 1)) (wish := wish)  h ?_ hx; clear h; intro r2 h
            with_reducible refine k_truB ?_
            exact hk (!r2) h
    · intro k N hn h
      try dsimp only at h
      with_reducible refine w_if (t_tst (e_op (e_call (a_cons (e_v1 (a_cons (e_c (a_nil ?_))))))))
      have s11 : takeOk 4 := ⟨by decide, by decide⟩
      refine tr_take s11 h ?_; clear h; intro r3 h
      with_reducible refine e_c (o_eq ?_)
      refine w_ifB (p := r3 = 3) dec_iff (fun c => ?_) (fun c => ?_)
      · replace h := h.1 c
        with_reducible refine w_as5 (e_call (a_cons (e_v1 (a_cons ?_))))
        obtain ⟨s13, h⟩ := h
        with_reducible refine e_op (e_op (e_op (e_op (e_c (e_c (o_pow30 (e_v4 (o_sub (e_c (o_add (e_v3 (y_div s13 (a_nil ?_)))))))))))))
        refine tr__law_great (most := (((1000000000000000000000000000000 - z) + 1) / plan2.1))  h ?_ hx; clear h; intro j3 h
        exact hn j3 h
      · replace h := h.2 c
        with_reducible refine w_next ?_
        exact hn j h
  · intro k N hn h
    try dsimp only at h
    with_reducible refine w_if (t_tst (e_op (e_call (a_cons (e_v1 (a_cons (e_c (a_nil ?_))))))))
    have s14 : takeOk 2 := ⟨by decide, by decide⟩
    refine tr_take s14 h ?_; clear h; intro r4 h
    with_reducible refine e_c (o_eq ?_)
    refine w_ifB (p := r4 = 1) dec_iff (fun c => ?_) (fun c => ?_)
    · replace h := h.1 c
      with_reducible refine w_as2 (e_call (a_cons (e_v1 (a_cons (e_c (a_nil ?_))))))
      refine tr__law_steep (period := 8)  h ?_ hx; clear h; intro plan3 h
      exact hn plan3 h
    · replace h := h.2 c
      with_reducible refine w_next ?_
      exact hn plan h

end Pu
set_option Elab.async false
set_option linter.all false
set_option maxRecDepth 100000
set_option maxHeartbeats 4000000
set_option autoImplicit false
namespace Pu
open PySem PySem.Spec PyProof.Rows L2
noncomputable def Plan (drivers period : Int) (m q : Int) (ns : List Int) : Prop := 1 ≤ m ∧ m ≤ period ∧ 1 ≤ q ∧ q ≤ ns.count 1 ∧ (ns.length : Int) ≤ drivers ∧ ∀ x ∈ ns, 1 ≤ x ∧ x ≤ m
noncomputable def GoodDepot (p q : Int) (ns : List Int) : Prop := 1 ≤ p ∧ p ≤ 8 ∧ 1 ≤ q ∧ q ≤ 12 ∧ 1 ≤ (ns.length : Int) ∧ (ns.length : Int) ≤ 12 ∧ (∀ y ∈ ns, 1 ≤ y ∧ y ≤ p) ∧ q ≤ (ns.count 1 : Int)
noncomputable def plc (m q : Int) (fs : List Int) : List Int := (List.range m.toNat).map fun (i : Nat) => (fs.count (1 + (i : Int)) : Int) - (if i = 0 then q else 0)
theorem plc_len {m q : Int} {fs : List Int} (h : 1 ≤ m) : ((plc m q fs).length : Int) = m := by
  unfold plc
  rw [List.length_map, List.length_range]
  omega
theorem plc_get {m q : Int} {fs : List Int} {i : Nat} (h : i < (plc m q fs).length) : (plc m q fs)[i] = (fs.count (1 + (i : Int)) : Int) - (if i = 0 then q else 0) := by
  simp only [plc, List.getElem_map, List.getElem_range]
theorem plc_nn {m q : Int} {fs : List Int} (hc : q ≤ fs.count 1) : ∀ y ∈ plc m q fs, 0 ≤ y := by
  intro y hy
  obtain ⟨i, hi, rfl⟩ := List.getElem_of_mem hy
  rw [plc_get hi]
  by_cases h : i = 0
  · subst h
    simp
    omega
  · rw [if_neg h]
    omega
theorem sum_le {ns : List Int} {b : Int} (hb : 0 ≤ b) : (∀ y ∈ ns, 0 ≤ y ∧ y ≤ b) → 0 ≤ ns.sum ∧ ns.sum ≤ b * ns.length := by
  induction ns with
  | nil => intro _; simp
  | cons n ns ih =>
    intro h
    have h1 := h n List.mem_cons_self
    have h2 := ih fun y hy => h y (List.mem_cons_of_mem _ hy)
    rw [List.sum_cons, List.length_cons]
    have : b * ((ns.length + 1 : Nat) : Int) = b * ns.length + b := by rw [Int.natCast_add, Int.mul_add]; simp
    omega
structure PL (m q : Int) (fs : List Int) : Prop where
  m1 : 1 ≤ m
  m8 : m ≤ 8
  q1 : 1 ≤ q
  qc : q ≤ fs.count 1
  n12 : (fs.length : Int) ≤ 12
  rg : ∀ x ∈ fs, 1 ≤ x ∧ x ≤ m
theorem PL.qn {m q : Int} {fs : List Int} (p : PL m q fs) : q ≤ fs.length := by
  have := p.qc
  have := List.count_le_length (a := 1) (l := fs)
  omega
theorem PL.good {m q : Int} {fs : List Int} (p : PL m q fs) : GoodDepot m q fs := by
  have := p.qn
  have := p.n12
  have := p.q1
  exact ⟨p.m1, p.m8, p.q1, by omega, by omega, p.n12, p.rg, p.qc⟩
theorem PL.sum {m q : Int} {fs : List Int} (p : PL m q fs) : 0 ≤ (plc m q fs).sum ∧ (plc m q fs).sum ≤ 96 := by
  have h := sum_le (ns := plc m q fs) (b := 12) (by decide) fun y hy => ⟨plc_nn p.qc y hy, by
    obtain ⟨i, hi, rfl⟩ := List.getElem_of_mem hy
    rw [plc_get hi]
    have h1 := List.count_le_length (a := 1 + (i : Int)) (l := fs)
    have h2 := p.n12
    have h3 := p.q1
    split <;> omega⟩
  have h1 := plc_len (q := q) (fs := fs) p.m1
  have := p.m8
  omega
noncomputable def duep (m q : Int) (fs : List Int) (N : Int) : List Int := (plc m q fs).zipIdx.map fun p => p.1 + (if 1 + (p.2 : Int) = N % m + 1 then q else 0)
noncomputable abbrev St0 := Int × List Int
noncomputable def ascB : Int → Int → List Int → Bool
  | _, _, [] => true
  | least, size, x :: xs => decide (least ≤ x) && (decide (x < size) && ascB (x + 1) size xs)
noncomputable def sflt : Int → Int → List St0 → Option (Int × Str)
  | _, _, [] => none
  | i, tot, r :: rs => if ¬ (1 ≤ r.1 ∧ r.1 ≤ 1000000000000000000000000000000) then some (i, "days") else if ascB 0 12 r.2 = false then some (i, "runners")
    else if 1000000000000000000000000000000 < tot + r.1 then some (i, "total") else sflt (i + 1) (tot + r.1) rs
noncomputable def bflt (rows : List St0) : Option (Int × Str) := if 400 < rows.length then some (400, "stretches") else sflt 0 0 rows
noncomputable def jstep (acc : List St0) (r : St0) : List St0 := match acc.getLast? with
  | some l => if l.2 = r.2 then acc.dropLast ++ [(l.1 + r.1, r.2)] else acc ++ [r]
  | none => [r]
noncomputable def jo (rows : List St0) : List St0 := rows.foldl jstep []
noncomputable def sumD (rows : List St0) : Int := (rows.map (·.1)).sum
theorem jn_snoc (rows : List St0) (r : St0) : jo (rows ++ [r]) = jstep (jo rows) r := by unfold jo; rw [List.foldl_append]; rfl
theorem jstep_len (acc : List St0) (r : St0) : (jstep acc r).length ≤ acc.length + 1 := by
  unfold jstep
  split
  · split
    · rw [List.length_append, List.length_dropLast, List.length_singleton]; omega
    · rw [List.length_append]; simp
  · simp
theorem jn_len (rows : List St0) : (jo rows).length ≤ rows.length := by
  induction rows using snoc_ind with
  | h0 => simp [jo]
  | h1 xs x ih =>
    rw [jn_snoc, List.length_append]
    have := jstep_len (jo xs) x
    simp only [List.length_singleton]
    omega
theorem sumD_append (a b : List St0) : sumD (a ++ b) = sumD a + sumD b := by unfold sumD; rw [List.map_append, List.sum_append]
theorem sumD_one (r : St0) : sumD [r] = r.1 := by unfold sumD; simp
theorem snoc_of {α : Type} {xs : List α} {l : α} (h : xs.getLast? = some l) : xs = xs.dropLast ++ [l] := by
  rw [List.getLast?_eq_some_iff] at h
  obtain ⟨ys, rfl⟩ := h
  rw [List.dropLast_concat]
theorem jstep_sum (acc : List St0) (r : St0) : sumD (jstep acc r) = sumD acc + r.1 := by
  unfold jstep
  split
  · rename_i l e
    split
    · have e2 := congrArg sumD (snoc_of e)
      rw [sumD_append, sumD_one] at e2 ⊢
      omega
    · rw [sumD_append, sumD_one]
  · rename_i e
    rw [List.getLast?_eq_none_iff] at e
    subst e
    rw [sumD_one]
    simp [sumD]
theorem jn_sum (rows : List St0) : sumD (jo rows) = sumD rows := by
  induction rows using snoc_ind with
  | h0 => rfl
  | h1 xs x ih => rw [jn_snoc, jstep_sum, ih, sumD_append, sumD_one]
noncomputable def isSt (rows : List St0) (k : Nat) : Bool := decide (k = 0) || decide ((rows.map (·.2))[k - 1]? ≠ (rows.map (·.2))[k]?)
noncomputable def strt (rows : List St0) : List Nat := (List.range rows.length).filter (isSt rows)
noncomputable def ends (rows : List St0) : List Nat := (strt rows).drop 1 ++ [rows.length]
noncomputable def cutR (rows : List St0) (a b : Nat) : List St0 := (rows.drop a).take (b - a)
noncomputable def GL (rows : List St0) : Prop := ∀ r ∈ rows, r.2.length ≤ 100
structure D3 where
  p : Int
  l : Int
  x : Int
noncomputable def step1 (m b' d : Int) (inn : Bool) (s : D3) : D3 := if inn = true then ⟨s.p + d, s.l, b'⟩ else ⟨s.p, s.l + (b' - s.x + m - 1) / m, s.x + (b' - s.x + m - 1) / m * m⟩
noncomputable def inG (g : List Int) (i : Nat) : Bool := decide ((i : Int) ∈ g)
noncomputable def run (m : Int) (i : Nat) : List St0 → Int → D3 → D3
  | [], _, s => s
  | r :: rs, b, s => run m i rs (b + r.1) (step1 m (b + r.1) r.1 (inG r.2 i) s)
noncomputable def st0 (fs : List Int) (i : Nat) : D3 := ⟨0, 0, fs.getD i 0⟩
noncomputable def stA (m : Int) (fs : List Int) (rows : List St0) (i : Nat) : D3 := run m i rows 1 (st0 fs i)
noncomputable def sumR (n : Nat) (f : Nat → Int) : Int := ((List.range n).map f).sum
structure OkAt (m q : Int) (fs : List Int) (pre : List St0) (r : St0) : Prop where
  len : (r.2.length : Int) = q
  nd : r.2.Nodup
  at_ : ∀ x ∈ r.2, 0 ≤ x ∧ x < fs.length ∧ (stA m fs pre x.toNat).x = 1 + sumD pre
noncomputable def Vld (m q : Int) (fs : List Int) (rows : List St0) : Prop := ∀ (pre : List St0) (r : St0) (post : List St0), rows = pre ++ r :: post → OkAt m q fs pre r
theorem Vld.init {m q : Int} {fs : List Int} {rows : List St0} {r : St0} (h : Vld m q fs (rows ++ [r])) : Vld m q fs rows ∧ OkAt m q fs rows r :=
  ⟨fun pre r' post e => h pre r' (post ++ [r]) (by rw [e]; simp), h rows r [] rfl⟩
theorem Vld.nil {m q : Int} {fs : List Int} : Vld m q fs [] := fun pre r post e => by simp at e
noncomputable def wd (m x : Int) : Int := (x - 1) % m + 1
noncomputable def plf (q : Int) (fs : List Int) (c : Nat) : Int := (fs.count (1 + (c : Int)) : Int) - (if c = 0 then q else 0)
noncomputable def hereL (n : Nat) (f : Nat → Int) (b : Int) : List Int := ((List.range n).filter fun i => decide (f i = b)).map Int.ofNat
noncomputable def goneL (m b' : Int) (crew : List Int) (n : Nat) (f : Nat → Int) : List Int := (List.range n).map fun i => if inG crew i = true then b' else f i + (b' - f i + m - 1) / m * m
noncomputable def Good (rows : List St0) : Prop := ∀ r ∈ rows, 1 ≤ r.1 ∧ ascB 0 12 r.2 = true ∧ r.2.length ≤ 12
noncomputable def xsL (m : Int) (fs : List Int) (rows : List St0) : List Int := (List.range fs.length).map fun i => (stA m fs rows i).x
noncomputable def fb1 (q : Int) (n : Nat) (b : Int) (f : Nat → Int) (g : List Int) : Option Str :=
  if g.any (fun x => decide ((n : Int) ≤ x)) = true then some "driver" else if (g.length : Int) ≠ q then some "count" else if g.any (fun x => decide (f x.toNat ≠ b)) = true then some "away" else none
noncomputable def mixR (n k : Nat) (new old : Nat → Int) : List Int := (List.range n).map fun i => if i < k then new i else old i
noncomputable def psF (m : Int) (fs : List Int) (rows : List St0) (i : Nat) : Int := (stA m fs rows i).p
noncomputable def lsF (m : Int) (fs : List Int) (rows : List St0) (i : Nat) : Int := (stA m fs rows i).l
noncomputable def xsF (m : Int) (fs : List Int) (rows : List St0) (i : Nat) : Int := (stA m fs rows i).x
noncomputable def arr (n : Nat) (f : Nat → Int) : List Int := (List.range n).map f
noncomputable def fbad (m q : Int) (fs : List Int) : List St0 → List St0 → Option (Int × Str)
  | _, [] => none
  | pre, r :: rs => match fb1 q fs.length (1 + sumD pre) (xsF m fs pre) r.2 with
    | some s => some (pre.length, s)
    | none => fbad m q fs (pre ++ [r]) rs
noncomputable def lgF (m : Int) (fs : List Int) (rows : List St0) (i : Nat) : Int := (xsF m fs rows i - fs.getD i 0 - psF m fs rows i) / m
structure Two where
  m : Int
  q : Int
  fs : List Int
  rows : List St0
noncomputable def Two.ok (t : Two) : Prop := PL t.m t.q t.fs ∧ t.rows.length ≤ 400 ∧ Good t.rows ∧ sumD t.rows ≤ 1000000000000000000000000000000 ∧ Vld t.m t.q t.fs t.rows
theorem Vld.take {m q : Int} {fs : List Int} {rows : List St0} (h : Vld m q fs rows) (k : Nat) : Vld m q fs (rows.take k) := by
  intro pre r post e
  exact h pre r (post ++ rows.drop k) (by rw [← List.cons_append, ← List.append_assoc, ← e, List.take_append_drop])
noncomputable def hstep (s : List St0 × Int) (r : St0) : List St0 × Int := (if 0 < s.2 then s.1 ++ [(if s.2 < r.1 then s.2 else r.1, r.2)] else s.1, s.2 - r.1)
noncomputable def tstep (s : List St0 × Int) (r : St0) : List St0 × Int := (if s.2 < r.1 then s.1 ++ [(r.1 - (if s.2 > 0 then s.2 else 0), r.2)] else s.1, s.2 - r.1)
noncomputable def hd (k : Int) (rows : List St0) : List St0 := (rows.foldl hstep ([], k)).1
noncomputable def tl (k : Int) (rows : List St0) : List St0 := (rows.foldl tstep ([], k)).1
theorem hd2 (k : Int) (rows : List St0) : (rows.foldl hstep ([], k)).2 = k - sumD rows := by
  induction rows using snoc_ind with
  | h0 => simp [sumD]
  | h1 xs r ih => rw [List.foldl_append, sumD_append]; show (xs.foldl hstep ([], k)).2 - r.1 = _; rw [ih]; simp [sumD]; omega
theorem Good.init {rows : List St0} {r : St0} (h : Good (rows ++ [r])) : Good rows ∧ 1 ≤ r.1 := ⟨fun x hx => h x (List.mem_append_left _ hx), (h r (by simp)).1⟩
theorem OkAt.days {m q : Int} {fs : List Int} {pre : List St0} {r : St0} (o : OkAt m q fs pre r) (d : Int) : OkAt m q fs pre (d, r.2) := ⟨o.len, o.nd, o.at_⟩
theorem OkAt.same {m q : Int} {fs : List Int} {pre pre' : List St0} {r : St0} (o : OkAt m q fs pre r) (h1 : ∀ i, stA m fs pre' i = stA m fs pre i) (h2 : sumD pre' = sumD pre) : OkAt m q fs pre' r :=
  ⟨o.len, o.nd, fun x hx => by rw [h1, h2]; exact o.at_ x hx⟩
theorem jstep_good {acc : List St0} {r : St0} (h : Good acc) (h1 : 1 ≤ r.1 ∧ ascB 0 12 r.2 = true ∧ r.2.length ≤ 12) : Good (jstep acc r) := by
  unfold jstep
  cases hg : acc.getLast? with
  | none => exact fun x hx => by rw [List.mem_singleton.mp hx]; exact h1
  | some l =>
    simp only
    by_cases c : l.2 = r.2
    · rw [if_pos c]
      intro x hx
      obtain ⟨ini, hi⟩ := List.getLast?_eq_some_iff.mp hg
      have hl := h l (by rw [hi]; simp)
      rcases List.mem_append.mp hx with hx | hx
      · exact h x ((List.dropLast_sublist _).subset hx)
      · rw [List.mem_singleton.mp hx]
        exact ⟨by show 1 ≤ l.1 + r.1; omega, h1.2⟩
    · rw [if_neg c]
      intro x hx
      rcases List.mem_append.mp hx with hx | hx
      · exact h x hx
      · rw [List.mem_singleton.mp hx]; exact h1
theorem jn_good {rows : List St0} (h : Good rows) : Good (jo rows) := by
  induction rows using snoc_ind with
  | h0 => exact h
  | h1 xs r ih =>
    rw [jn_snoc]
    exact jstep_good (ih h.init.1) (h r (by simp))
noncomputable def stF (m : Int) (fs : List Int) (h : List St0) : List Int := arr fs.length (fun i => xsF m fs h i - sumD h)
noncomputable def spt (m q : Int) (fs : List Int) : List Int := (List.range (m + 1).toNat).map fun (w : Nat) => (fs.count (w : Int) : Int) - (if w = 1 then q else 0)
noncomputable def cstep (m : Int) (s : List St0 × Int) (r : St0) : List St0 × Int := (if 0 < (s.2 + r.1) / m - s.2 / m then s.1 ++ [((s.2 + r.1) / m - s.2 / m, r.2)] else s.1, s.2 + r.1)
noncomputable def cw (m : Int) (rows : List St0) : List St0 := (rows.foldl (cstep m) ([], 0)).1
noncomputable def tms (rows : List St0) (i : Nat) : Int := sumD (rows.filter fun r => inG r.2 i)
theorem arr_congr {n : Nat} {f g : Nat → Int} (h : ∀ i, i < n → f i = g i) : arr n f = arr n g := by
  unfold arr
  exact List.map_congr_left fun i hi => h i (List.mem_range.mp hi)
theorem arr_len {n : Nat} {f : Nat → Int} : (arr n f).length = n := by unfold arr; rw [List.length_map, List.length_range]
theorem set_arr {n : Nat} {f : Nat → Int} {i : Nat} {v : Int} : (arr n f).set i v = arr n (fun j => if j = i then v else f j) := by
  unfold arr
  apply List.ext_getElem
  · simp
  · intro j h1 h2
    rw [List.getElem_set, List.getElem_map, List.getElem_map, List.getElem_range]
    by_cases hj : i = j
    · rw [if_pos hj, if_pos hj.symm]
    · rw [if_neg hj, if_neg (fun z => hj z.symm)]
structure CS (m q : Int) (fs : List Int) (rows L : List St0) : Prop where
  len : L.length ≤ 40
  all : ∀ r ∈ L, 1 ≤ r.1 ∧ (r.2.length : Int) = q ∧ ascB 0 fs.length r.2 = true ∧ ∀ x ∈ r.2, 0 ≤ x ∧ x < fs.length
  sum : sumD L = sumD rows / m
  tm : ∀ i, i < fs.length → tms L i = (fs.getD i 0 + psF m fs rows i - 1) / m
  last : ∀ l, L.getLast? = some l → ∀ i, i < fs.length → inG l.2 i = true → (fs.getD i 0 + psF m fs rows i - 1) % m ≤ sumD rows % m
noncomputable def dF (m : Int) (fs : List Int) (rows : List St0) (i : Nat) : Int := wd m (xsF m fs rows i)
noncomputable def cvS (r : St0) : Int × Tp Int := (r.1, ⟨r.2⟩)
end Pu
set_option Elab.async false
set_option linter.all false
set_option maxRecDepth 100000
set_option maxHeartbeats 2000000
set_option autoImplicit false
namespace Pu
open PySem PySem.Spec PyProof.Rows L2
theorem ty_sub {α : Type} {a : α} {k : α → Prop} (h : k a) : bnd a k := h
theorem ty_if {p : Prop} {A B : Prop} (h1 : p → A) (h2 : ¬ p → B) : ifP p A B := ⟨h1, h2⟩
theorem ty_ifT {p : Prop} {A B : Prop} (h : p) (h1 : A) : ifP p A B := ⟨fun _ => h1, fun z => absurd h z⟩
theorem ty_ifF {p : Prop} {A B : Prop} (h : ¬ p) (h1 : B) : ifP p A B := ⟨fun z => absurd z h, fun _ => h1⟩
theorem ty_jn {τ : Type} {F : τ → Prop} {K : τ} (h : F K) : jn F K := h
section
variable {α β : Type} {xs : List α}
theorem forK_fm {body : α → (List β → Prop) → (List β → Prop)} {K : List β → Prop} (v : α → Option β) (hl : xs.length ≤ szl)
    (hb : ∀ (pre : List α) (x : α) (post : List α) (k : List β → Prop) (row : List β), xs = pre ++ x :: post → row.length < szl → (∀ y, v x = some y → k (row ++ [y])) → (v x = none → k row) → body x k row) (h : K (xs.filterMap v)) : forK xs body K [] := by
  refine forK_ind (J := fun pre (k : List β → Prop) => ∀ row : List β, row = pre.filterMap v → k row) ?_ ?_ _ rfl
  · rintro row rfl
    exact h
  · rintro pre x post k e hk row rfl
    refine hb pre x post k _ e ?_ (fun y hy => hk _ (by rw [List.filterMap_append, List.filterMap_cons_some hy]; rfl)) (fun hy => hk _ (by rw [List.filterMap_append, List.filterMap_cons_none hy]; simp))
    have h1 := congrArg List.length e
    have h2 := List.length_filterMap_le v pre
    simp at h1
    omega
theorem forK_all {body : α → Prop → Prop} {K : Prop} (P : α → Prop) (hb : ∀ (pre : List α) (x : α) (post : List α) (k : Prop), xs = pre ++ x :: post → (∀ y ∈ pre, P y) → (P x → k) → body x k) (h : (∀ y ∈ xs, P y) → K) : forK xs body K := by
  refine forK_ind (J := fun pre k => (∀ y ∈ pre, P y) → k) h ?_ (fun _ z => by cases z)
  intro pre x post k e hk hp
  exact hb pre x post k e hp fun px => hk fun y hy => by
    rcases List.mem_append.mp hy with hy | hy
    · exact hp y hy
    · simp at hy; subst hy; exact px
theorem lcK_map {body : α → (Option β → Prop) → Prop} {K : List β → Prop} (v : α → β) (hb : ∀ (pre : List α) (x : α) (post : List α) (k : Option β → Prop), xs = pre ++ x :: post → k (some (v x)) → body x k) (h : K (xs.map v)) : lcK body K xs [] := by
  refine lcK_ind (I := fun pre es => es = pre.map v) rfl (fun es he => by subst he; exact h) ?_
  rintro pre x post es k e rfl h1 _
  exact hb pre x post k e (h1 _ (by simp))
end
theorem rg_split {a b : Int} {pre : List Int} {x : Int} {post : List Int} (e : rg a b = pre ++ x :: post) : x = a + pre.length ∧ x < b ∧ pre = rg a x := by
  have hl := congrArg List.length e
  rw [rg_len, List.length_append, List.length_cons] at hl
  have hx : (rg a b)[pre.length]? = some x := by rw [e]; simp
  have h1 : pre.length < (b - a).toNat := by omega
  unfold rg at hx
  rw [List.getElem?_map, List.getElem?_range h1] at hx
  have hx' : x = a + pre.length := (Option.some.inj hx).symm
  refine ⟨hx', by omega, ?_⟩
  have h2 := congrArg (List.take pre.length) e
  rw [List.take_left] at h2
  rw [← h2]
  unfold rg
  rw [← List.map_take, List.take_range, Nat.min_eq_left (by omega)]
  congr 2
  omega
theorem gi_arr {n : Nat} {f : Nat → Int} {i : Int} (h0 : 0 ≤ i) (h1 : i < n) : gi (arr n f) i = f i.toNat := by
  unfold gi arr
  rw [List.getD_eq_getElem?_getD, List.getElem?_map, List.getElem?_range (by omega)]
  rfl
theorem st_arr {n : Nat} {f : Nat → Int} {i v : Int} : st (arr n f) i v = arr n fun j => if j = i.toNat then v else f j := set_arr
theorem ok_arr {n : Nat} {f : Nat → Int} {i : Int} : ixOk (arr n f) i ↔ 0 ≤ i ∧ i < n := by unfold ixOk; rw [arr_len]
theorem fs_arr (fs : List Int) : fs = arr fs.length fun i => fs.getD i 0 := by
  apply List.ext_getElem
  · rw [arr_len]
  · intro i h1 h2
    simp only [arr, List.getElem_map, List.getElem_range]
    rw [List.getD_eq_getElem?_getD, List.getElem?_eq_getElem h1]
    rfl
theorem rep_arr (n : Int) : List.replicate n.toNat (0 : Int) = arr n.toNat fun _ => 0 := by
  unfold arr
  apply List.ext_getElem
  · simp
  · intro i h1 h2
    simp
theorem szl_eq : szl = 16777216 := rfl
end Pu
namespace Pu
open PySem PySem.Spec PyProof.Rows L2
theorem ty_take {n : Int} {Q : Int → Prop} (h : ∀ r : Int, 0 ≤ r → r < n → Q r) : takeT n Q := h
theorem ty_ok {n : Int} (h1 : 1 ≤ n) (h2 : n < 2 ^ 190) : takeOk n := ⟨h1, by omega⟩
theorem ty_b62 {n : Int} (h1 : -(2 ^ 60) ≤ n) (h2 : n < 2 ^ 60) : b62 n := ⟨by omega, by omega⟩
theorem ty_b62n {n : Nat} (h2 : n < 2 ^ 60) : b62 (n : Int) := ⟨by omega, by omega⟩
theorem ty_div {n : Int} (h1 : 0 < n) (h2 : n < 2 ^ 100) : divT n := ⟨h1, by omega⟩
theorem ty_mulL {x y : Int} (h1 : -(2 ^ 60) < x) (h2 : x < 2 ^ 60) : mulT x y := .inl ⟨by omega, by omega⟩
end Pu
namespace Pu
end Pu
namespace Pu
open PySem PySem.Spec PyProof.Rows L2
noncomputable abbrev allS (n : Nat) (ds : List D) : Prop := ∀ d ∈ ds, okS n d
theorem allS_nil {n : Nat} : allS n [] := fun _ z => by cases z
theorem allS_cons {n : Nat} {d : D} {ds : List D} (h : okS n d) (h2 : allS n ds) : allS n (d :: ds) := fun x hx => by
  rcases List.mem_cons.mp hx with rfl | hx
  · exact h
  · exact h2 x hx
theorem okS_tup {n : Nat} {ds : List D} (hl : ds.length ≤ szl) (h : allS n ds) : okS (n + 1) (.tup ds) := ⟨hl, h⟩
theorem okS_lstI {n : Nat} {xs : List Int} (hl : xs.length ≤ szl) : okS (n + 2) (.lst (xs.map D.int)) := ⟨by rw [List.length_map]; exact hl, okS_ints xs⟩
theorem okS_t2 {n : Nat} {d0 d1 : D} (h0 : okS n d0) (h1 : okS n d1) : okS (n + 1) (.tup [d0, d1]) := okS_tup (by simp only [List.length_cons, List.length_nil]; decide) (allS_cons h0 (allS_cons h1 allS_nil))
theorem okS_t4 {n : Nat} {d0 d1 d2 d3 : D} (h0 : okS n d0) (h1 : okS n d1) (h2 : okS n d2) (h3 : okS n d3) : okS (n + 1) (.tup [d0, d1, d2, d3]) := okS_tup (by simp only [List.length_cons, List.length_nil]; decide) (allS_cons h0 (allS_cons h1 (allS_cons h2 (allS_cons h3 allS_nil))))
theorem sameT_of {a b : D} (h : okS 6 a) (e : a = b) : sameT a b := ⟨h, e⟩
end Pu
set_option maxRecDepth 100000
set_option maxHeartbeats 4000000
set_option autoImplicit false
namespace Pu
open PySem PySem.Spec PyProof.Rows L2
set_option hygiene false in
local macro_rules | `(tactic| infer_instance) => `(tactic| (first
  | (with_reducible refine ty_take (fun r hr0 hr1 => ?_))
  | (with_reducible refine ty_sub ?_)
  | (with_reducible refine ty_jn ?_)
  | (with_reducible refine ty_if (fun c => ?_) (fun c => ?_))
  | (with_reducible refine And.intro ?_ ?_)
  | (with_reducible refine ty_ok ?_ ?_)
  | (with_reducible refine ty_b62 ?_ ?_)
  | (with_reducible refine ty_div ?_ ?_)))

theorem ins_mem {α : Type} {xs : List α} {i : Int} {y x : α} : x ∈ ins xs i y ↔ x = y ∨ x ∈ xs := by
  unfold ins
  rw [List.append_assoc, List.mem_append, List.mem_append, List.mem_singleton]
  constructor
  · rintro (h | h | h)
    · exact .inr (List.mem_of_mem_take h)
    · exact .inl h
    · exact .inr (List.mem_of_mem_drop h)
  · rintro (h | h)
    · exact .inr (.inl h)
    · rw [← List.take_append_drop i.toNat xs] at h
      rcases List.mem_append.mp h with h | h
      · exact .inl h
      · exact .inr (.inr h)
theorem ins_len {α : Type} {xs : List α} {i : Int} {y : α} : (ins xs i y).length = xs.length + 1 := by
  unfold ins
  simp only [List.length_append, List.length_take, List.length_drop, List.length_cons, List.length_nil]
  omega
theorem ins_cnt {xs : List Int} {i y : Int} : xs.count 1 ≤ (ins xs i y).count 1 := insCount i.toNat
theorem d_ins {q n k lo : Int} (h3 : 1 ≤ q) (h4 : q ≤ n) (h5 : n ≤ 12) (h6 : 1 ≤ lo) (h7 : 1 ≤ k) (h8 : k ≤ 8) (Q : List Int → Prop) (h : ∀ fs : List Int, fs.length = n.toNat → (∀ x ∈ fs, 1 ≤ x ∧ x ≤ k + lo - 1) → q ≤ fs.count 1 → Q fs) :
    forK (rg 0 (n - q)) (fun (k_ : Int) (kk : (List Int) → Prop) (firsts2 : (List Int)) => takeOk ((firsts2.length : Int) + 1) ∧ takeT ((firsts2.length : Int) + 1) (fun (r4 : Int) => takeOk k ∧ takeT k (fun (r5 : Int) => (firsts2.length < szl ∧ 0 ≤ r4 ∧ r4 < 2 ^ 63) ∧ kk (ins firsts2 r4 (lo + r5))))) Q (List.replicate q.toNat 1) := by
  have hz := szl_eq
  refine forK_ind (J := fun pre (kk : List Int → Prop) => ∀ fs : List Int, fs.length = q.toNat + pre.length → (∀ x ∈ fs, 1 ≤ x ∧ x ≤ k + lo - 1) → q ≤ fs.count 1 → kk fs) ?_ ?_ _ ?_ ?_ ?_
  · intro fs h1 h2 h3'
    rw [rg_len] at h1
    exact h fs (by omega) h2 h3'
  · intro pre x post kk e hk' fs h1 h2 h3'
    obtain ⟨e1, e2, _⟩ := rg_split e
    repeat' (first | infer_instance | fail)
    all_goals (try omega)
    refine hk' _ ?_ ?_ ?_
    · rw [ins_len, List.length_append, List.length_singleton]; omega
    · intro y hy
      rcases ins_mem.mp hy with rfl | hy
      · omega
      · exact h2 y hy
    · exact Int.le_trans h3' (by exact_mod_cast ins_cnt)
  · simp
  · intro x hx
    rw [List.eq_of_mem_replicate hx]
    omega
  · rw [List.count_replicate_self]; omega
theorem depot_t {drivers period : Int} (h1 : 1 ≤ drivers) (h2 : drivers ≤ 12) (h3 : 1 ≤ period) (h4 : period ≤ 8) {Q : Int × Int × List Int → Prop} {X : Exn → Prop} (h : ∀ m q fs, PL m q fs → (fs.length : Int) ≤ drivers → m ≤ period → Q (m, q, fs)) : t__law_depot drivers period Q X := by
  unfold t__law_depot
  repeat' (first | infer_instance | (refine d_ins (lo := 1) ?_ ?_ ?_ ?_ ?_ ?_ _ (fun fs e1 e2 e3 => ?_)) | fail)
  all_goals first
    | omega
    | (unfold mn; split <;> omega)
    | (unfold mn at hr1; split at hr1 <;> omega)
    | (refine h _ _ _ ⟨?_, ?_, ?_, e3, ?_, fun x hx => by have := e2 x hx; omega⟩ ?_ ?_ <;> first | omega | (unfold mn at hr1; split at hr1 <;> omega))
    | skip
theorem steep_t {period : Int} (h3 : 2 ≤ period) (h4 : period ≤ 8) {Q : Int × Int × List Int → Prop} {X : Exn → Prop} (h : ∀ m q fs, PL m q fs → (fs.length : Int) ≤ 7 → Q (m, q, fs)) : t__law_steep period Q X := by
  unfold t__law_steep
  repeat' (first | infer_instance | fail)
  all_goals (try omega)
  rename_i r0 a0 a1 r1 b0 b1
  have e : (1 + r1) + 1 + r = ((1 + r1) + ((1 + r1) + 1 + r)) - (1 + r1) := by omega
  rw [e]
  refine d_ins (lo := 2) ?_ ?_ ?_ ?_ ?_ ?_ _ (fun fs e1 e2 e3 => ?_)
  all_goals (try omega)
  exact h _ _ _ ⟨by omega, by omega, by omega, e3, by omega, fun x hx => by have := e2 x hx; omega⟩ (by omega)
theorem great_t {most : Int} (h1 : 0 ≤ most) (h2 : most < 2 ^ 140) {Q : Int → Prop} {X : Exn → Prop} (h : ∀ r, 0 ≤ r → r ≤ most → Q r) : t__law_great most Q X := by
  have hm : ∀ x y : Int, 0 ≤ x → 0 ≤ y → 0 ≤ mn x y ∧ mn x y ≤ x := fun x y _ _ => by unfold mn; split <;> omega
  unfold t__law_great
  repeat' (first | infer_instance | fail)
  all_goals first
    | exact h _ (hm _ _ h1 (by assumption)).1 (hm _ _ h1 (by assumption)).2
    | skip
  intro z hz
  repeat' (first | infer_instance | fail)
  all_goals first
    | omega
    | exact h _ (by omega) (by omega)
    | skip
  refine forK_ind (J := fun _ (k : Int → Prop) => ∀ g : Int, 0 ≤ g → k g) ?_ ?_ _ (by omega)
  · intro g hg
    exact ⟨by omega, h _ (Int.emod_nonneg _ (by omega)) (Int.le_of_lt_add_one (Int.emod_lt_of_pos _ (by omega)))⟩
  · intro pre x post k e hk g hg
    repeat' (first | infer_instance | fail)
    exact hk _ (by omega)
theorem dep_t {p q : Int} {fs : List Int} (g : GoodDepot p q fs) {Q : Dp → Prop} {X : Exn → Prop} (h : Q ⟨p, q, fs⟩) : t_DepotU_initU p q fs Q X := by
  obtain ⟨g1, g2, g3, g4, g5, g6, g7, g8⟩ := g
  unfold t_DepotU_initU t_check_period_and_quota
  refine ty_ifF (fun z => z ⟨g1, g2⟩) (ty_ifF (fun z => z ⟨g3, g4⟩) ?_)
  unfold t_check_firsts
  refine ty_ifF (fun z => z ⟨g5, g6⟩) ?_
  refine forK_all (P := fun _ => True) ?_ (fun _ => ty_sub (ty_ifF (by omega) h))
  intro pre x post k e _ hk
  have hx : x.2 ∈ fs := by
    have : x ∈ en 0 fs := by rw [e]; simp
    unfold en at this
    obtain ⟨y, hy, rfl⟩ := List.mem_map.mp this
    exact List.fst_mem_of_mem_zipIdx hy
  exact ty_ifF (fun z => z (g7 _ hx)) (hk trivial)
theorem xs0 {m : Int} {fs : List Int} : fs = arr fs.length (xsF m fs []) := fs_arr fs
noncomputable def BkOk (rows : List St0) : Prop := Good rows ∧ sumD rows ≤ 1000000000000000000000000000000 ∧ rows.length ≤ 400
theorem era_len {α : Type} {xs : List α} {i : Int} (h : ixOk xs i) : (era xs i).length + 1 = xs.length := by
  have h1 := h.1
  have h2 := h.2
  unfold era
  rw [List.length_eraseIdx]
  rw [if_pos (by omega)]
  omega
theorem st_len {α : Type} {xs : List α} {i : Int} {y : α} : (st xs i y).length = xs.length := by unfold st; rw [List.length_set]
noncomputable def mir (m : Int) (fs : List Int) (rows : List St0) : List Int := arr fs.length fun i => (sumD rows + 1 - xsF m fs rows i) % m + 1
theorem BkOk.jo {rows : List St0} (h : BkOk rows) : BkOk (Pu.jo rows) := ⟨jn_good h.1, by rw [jn_sum]; exact h.2.1, Nat.le_trans (jn_len rows) h.2.2⟩
theorem wday_t {dp : Dp} {x : Int} (h0 : 1 ≤ x) (hm : 1 ≤ dp.p) {Q : Int → Prop} {X : Exn → Prop} (h : Q (wd dp.p x)) : t_Depot_weekday dp x Q X := by
  unfold t_Depot_weekday
  exact ty_ifF (by omega) ⟨by omega, h⟩
theorem places_t {m q : Int} {fs : List Int} (hm : 1 ≤ m) : g_Depot_places ⟨m, q, fs⟩ = plc m q fs := by
  unfold g_Depot_places plc rg
  rw [List.map_map]
  dsimp only
  rw [show m + 1 - 1 = m by omega]
  refine List.map_congr_left fun i _ => ?_
  show ((fs.count (1 + (i : Int)) : Nat) : Int) - (if 1 + (i : Int) = 1 then q else 0) = _
  by_cases c : i = 0
  · rw [if_pos c, if_pos (by omega)]
  · rw [if_neg c, if_neg (by omega)]
theorem lastwd_t {dp : Dp} {N : Int} (h0 : 0 ≤ N) (h1 : N ≤ 1000000000000000000000000000000) (hm : 1 ≤ dp.p) {Q : Int → Prop} {X : Exn → Prop} (h : Q (wd dp.p (N + 1))) : t_Depot_last_weekday dp N Q X := by
  unfold t_Depot_last_weekday t_check_days
  exact ty_ifF (fun z => z ⟨h0, h1⟩) (wday_t (by omega) hm h)
theorem en_len {α : Type} {k : Int} {xs : List α} : (en k xs).length = xs.length := by unfold en; rw [List.length_map, List.length_zipIdx]
theorem due_t {m q N : Int} {fs : List Int} (p : PL m q fs) (h0 : 0 ≤ N) (h1 : N ≤ 1000000000000000000000000000000) {Q : List Int → Prop} {X : Exn → Prop} (h : Q (duep m q fs N)) : t_Depot_due_places ⟨m, q, fs⟩ N Q X := by
  have hz := szl_eq
  have hm1 := p.m1
  have hm8 := p.m8
  unfold t_Depot_due_places
  refine lastwd_t h0 h1 hm1 ?_
  rw [places_t hm1]
  have hl := plc_len (q := q) (fs := fs) hm1
  refine ⟨⟨⟨ty_b62 (by decide) (by decide), ty_b62 ?_ ?_⟩, ?_⟩, by rw [en_len]; omega, ?_⟩
  · dsimp only; omega
  · dsimp only; omega
  · rw [rg_len]; dsimp only; omega
  · have e : List.map (fun (r1 : (Int × Int)) => (r1.2 + (if r1.1 = wd m (N + 1) then q else 0))) (en 1 (plc m q fs)) = duep m q fs N := by
      unfold en duep wd
      rw [List.map_map, show N + 1 - 1 = N by omega]
      rfl
    exact (congrArg Q e).mpr h
noncomputable def wreas (have_ : Int → Int) (need : List Int) : List (Str × Int × Int × Int) := (en 1 need).filterMap fun r => if have_ r.1 ≠ r.2 then some (("weekday" : Str), r.1, have_ r.1, r.2) else none
theorem count_spots {m q : Int} {fs : List Int} (p : PL m q fs) {K : List Int → Prop} (h : K (arr (m + 1).toNat fun w => ((fs.count (w : Int) : Nat) : Int))) : forK fs (fun (first : Int) (k : (List Int) → Prop) (row2 : (List Int)) => ixOk row2 first ∧ ixOk row2 first ∧ k (st row2 first ((gi row2 first) + 1))) K (List.replicate (m + 1).toNat 0) := by
  refine forK_ind (J := fun pre (k : List Int → Prop) => ∀ a, a = (arr (m + 1).toNat fun w => ((pre.count (w : Int) : Nat) : Int)) → k a) ?_ ?_ _ (by rw [rep_arr]; rfl)
  · rintro a rfl
    exact h
  · rintro pre x post k e hk a rfl
    have hx := p.rg x (by rw [e]; simp)
    have hm := p.m1
    have ok : ixOk (arr (m + 1).toNat fun w => ((pre.count (w : Int) : Nat) : Int)) x := ok_arr.mpr ⟨by omega, by omega⟩
    refine ⟨ok, ok, hk _ ?_⟩
    rw [gi_arr (by omega) (by omega), st_arr]
    refine arr_congr fun j hj => ?_
    rw [List.count_append]
    by_cases c : j = x.toNat
    · have e2 : (j : Int) = x := by omega
      rw [if_pos c, show ((x.toNat : Nat) : Int) = x by omega, e2]
      simp
    · rw [if_neg c, (show List.count (j : Int) [x] = 0 from List.count_eq_zero.mpr (by simp only [List.mem_singleton]; omega))]
      rfl
theorem spt_arr {m q : Int} {fs : List Int} : spt m q fs = arr (m + 1).toNat fun w => ((fs.count (w : Int) : Nat) : Int) - (if w = 1 then q else 0) := rfl
theorem spots_t {m q : Int} {fs : List Int} (p : PL m q fs) {Q : List Int → Prop} {X : Exn → Prop} (h : Q (spt m q fs)) : t__law_spots (m, q, fs) Q X := by
  have hm := p.m1
  have hm8 := p.m8
  unfold t__law_spots
  dsimp only
  refine ⟨⟨by omega, by omega⟩, ty_sub (count_spots p ?_)⟩
  have ok : ixOk (arr (m + 1).toNat fun w => ((fs.count (w : Int) : Nat) : Int)) 1 := ok_arr.mpr ⟨by decide, by omega⟩
  refine ⟨ok, ok, ?_⟩
  rw [gi_arr (by decide) (by omega), st_arr]
  rw [spt_arr] at h
  have e : (arr (m + 1).toNat fun j => if j = (1 : Int).toNat then (fs.count (((1 : Int).toNat : Nat) : Int) : Int) - q else (fs.count (j : Int) : Int)) = arr (m + 1).toNat fun w => ((fs.count (w : Int) : Nat) : Int) - (if w = 1 then q else 0) := by
    refine arr_congr fun j _ => ?_
    by_cases c : j = 1
    · subst c
      rfl
    · rw [if_neg c, if_neg (show ¬ j = (1 : Int).toNat from c)]
      omega
  rw [e]
  exact h
noncomputable def dspt (m q : Int) (fs : List Int) (N : Int) : List Int := arr (m + 1).toNat fun w => ((fs.count (w : Int) : Nat) : Int) - (if w = 1 then q else 0) + (if (w : Int) = N % m + 1 then q else 0)
theorem dspots_t {m q N : Int} {fs : List Int} (p : PL m q fs) {Q : List Int → Prop} {X : Exn → Prop} (h : Q (dspt m q fs N)) : t__law_due_spots (m, q, fs) N Q X := by
  have hm := p.m1
  have h3 := Int.emod_nonneg N (show m ≠ 0 by omega)
  have h4 := Int.emod_lt_of_pos N (show 0 < m by omega)
  unfold t__law_due_spots
  refine spots_t p ⟨by dsimp only; omega, ty_sub ?_⟩
  dsimp only
  rw [spt_arr]
  have ok : ixOk (arr (m + 1).toNat fun w => ((fs.count (w : Int) : Nat) : Int) - (if w = 1 then q else 0)) (N % m + 1) := ok_arr.mpr ⟨by omega, by omega⟩
  refine ⟨ok, ok, ?_⟩
  rw [gi_arr (by omega) (by omega), st_arr]
  have e : (arr (m + 1).toNat fun j => if j = (N % m + 1).toNat then (fs.count (((N % m + 1).toNat : Nat) : Int) : Int) - (if (N % m + 1).toNat = 1 then q else 0) + q else (fs.count (j : Int) : Int) - (if j = 1 then q else 0)) = dspt m q fs N := by
    unfold dspt
    refine arr_congr fun j _ => ?_
    by_cases c : j = (N % m + 1).toNat
    · rw [if_pos c, if_pos (show (j : Int) = N % m + 1 by omega), c]
    · rw [if_neg c, if_neg (show ¬ (j : Int) = N % m + 1 by omega)]
      omega
  rw [e]
  exact h
theorem dspt_gi {m q N c : Int} {fs : List Int} (h1 : 1 ≤ c) (h2 : c ≤ m) : gi (dspt m q fs N) c = (fs.count c : Int) - (if c = 1 then q else 0) + (if c = N % m + 1 then q else 0) := by
  unfold dspt
  rw [gi_arr (by omega) (by omega)]
  rw [show ((c.toNat : Nat) : Int) = c by omega]
  have : (c.toNat = 1) ↔ c = 1 := by omega
  simp only [this]
noncomputable def mkF' (fs ps : List Int) (i : Nat) : Int := fs.getD i 0 + ps.getD i 0
noncomputable def marksL (fs ps : List Int) : List Int := arr fs.length (mkF' fs ps)
noncomputable abbrev Rs := Str × List Int
noncomputable def sumRs (q N : Int) (ps : List Int) : List Rs := if ps.sum ≠ q * N then [(("sum" : Str), [ps.sum, q * N])] else []
noncomputable def wdHave (m : Int) (ms : List Int) (c : Int) : Int := ((ms.filter fun (p : Int) => decide (wd m p = c)).length : Int)
noncomputable def wdRs (m q N : Int) (fs ms : List Int) : List Rs := (rg 1 (m + 1)).filterMap fun c => if wdHave m ms c ≠ gi (dspt m q fs N) c then some (("weekday" : Str), [c, wdHave m ms c, gi (dspt m q fs N) c]) else none
noncomputable def beRs (N : Int) (ps ms : List Int) : List Rs := (rg 0 ms.length).filterMap fun i => if 0 < gi ps i ∧ N + 1 < gi ms i then some (("beyond" : Str), [i, gi ms i]) else none
noncomputable def leHave (ms : List Int) (c : Int) : Int := ((ms.filter fun (p : Int) => decide (p ≤ c)).length : Int)
noncomputable def rmF (m q : Int) (fs : List Int) (c : Int) : Int := (slT (plc m q fs) c).sum
noncomputable def eaRs (m q : Int) (fs ms : List Int) (cs : List Int) : List Rs := cs.filterMap fun c => if rmF m q fs c < leHave ms c then some (("early" : Str), [c, leHave ms c, rmF m q fs c]) else none
noncomputable def comRs (m q : Int) (fs : List Int) (N : Int) (ps : List Int) : List Rs := sumRs q N ps ++ wdRs m q N fs (marksL fs ps) ++ beRs N ps (marksL fs ps)
noncomputable def reas (m q : Int) (fs : List Int) (N : Int) (ps : List Int) : List Rs := comRs m q fs N ps ++ eaRs m q fs (marksL fs ps) (rg 1 (mn m N + 1))
noncomputable def verdR (rs : List Rs) : Rs := match rs with | [] => (("possible" : Str), []) | r :: _ => r
noncomputable def verd (m q : Int) (fs : List Int) (N : Int) (ps : List Int) : Rs := verdR (reas m q fs N ps)
structure Row (fs ps : List Int) : Prop where
  len : ps.length = fs.length
  nn : ∀ x ∈ ps, 0 ≤ x
theorem fm_len {α β : Type} {f : α → Option β} {xs : List α} : (xs.filterMap f).length ≤ xs.length := List.length_filterMap_le f xs
theorem dspt_duep {m q N : Int} {fs : List Int} {i : Nat} (h : (i : Int) < m) : gi (dspt m q fs N) (1 + (i : Int)) = plf q fs i + (if 1 + (i : Int) = N % m + 1 then q else 0) := by
  rw [dspt_gi (by omega) (by omega)]
  unfold plf
  have e : (1 + (i : Int) = 1) ↔ i = 0 := by omega
  simp only [e]
theorem en_due {m q N : Int} {fs : List Int} (hm : 1 ≤ m) : en 1 (duep m q fs N) = (rg 1 (m + 1)).map fun c => (c, gi (dspt m q fs N) c) := by
  unfold en duep rg
  rw [List.map_map, show m + 1 - 1 = m by omega]
  unfold plc
  apply List.ext_getElem
  · simp
  · intro i h1 h2
    simp only [List.length_map, List.length_range] at h2
    simp only [List.getElem_map, List.getElem_zipIdx, List.getElem_range, Function.comp_apply, Nat.zero_add]
    rw [dspt_duep (by omega)]
    unfold plf
    rfl
theorem le_zero {ms : List Int} (h : ∀ x ∈ ms, 1 ≤ x) : leHave ms 0 = 0 := by
  unfold leHave
  rw [List.filter_eq_nil_iff.mpr]
  · rfl
  · intro x hx
    have := h x hx
    simp only [decide_eq_true_eq]
    omega
theorem rg_app {a b c : Int} (h1 : a ≤ b) (h2 : b ≤ c) : rg a c = rg a b ++ rg b c := by
  unfold rg
  have e : (c - a).toNat = (b - a).toNat + (c - b).toNat := by omega
  rw [e, List.range_add, List.map_append, List.map_map]
  congr 1
  refine List.map_congr_left fun i _ => ?_
  show a + (((b - a).toNat + i : Nat) : Int) = b + (i : Int)
  omega
theorem rg_cons {a b : Int} (h : a < b) : rg a b = a :: rg (a + 1) b := by
  rw [rg_app (show a ≤ a + 1 by omega) (show a + 1 ≤ b by omega)]
  have : rg a (a + 1) = [a] := by
    unfold rg
    rw [show (a + 1 - a).toNat = 1 by omega]
    simp
  rw [this]
  rfl
theorem gi_mem0 {α : Type} [Inhabited α] {xs : List α} {i : Int} (h : ixOk xs i) : gi xs i ∈ xs := by
  have h1 : i.toNat < xs.length := by have := h.1; have := h.2; omega
  have := gi_nat h1
  rw [Int.toNat_of_nonneg h.1] at this
  rw [this]
  exact List.getElem_mem h1
theorem le_cnt1 {ms : List Int} {c : Int} : leHave ms (c + 1) = leHave ms c + (ms.count (c + 1) : Nat) := by
  unfold leHave
  induction ms with
  | nil => rfl
  | cons x xs ih =>
    rw [List.filter_cons, List.filter_cons, List.count_cons]
    by_cases a1 : x ≤ c
    · rw [if_pos (decide_eq_true (show x ≤ c + 1 by omega)), if_pos (decide_eq_true a1), if_neg (by simp only [beq_iff_eq]; omega)]
      simp only [List.length_cons]
      omega
    · by_cases a2 : x = c + 1
      · rw [if_pos (decide_eq_true (show x ≤ c + 1 by omega)), if_neg (by simpa using a1), if_pos (by simp only [beq_iff_eq]; exact a2)]
        simp only [List.length_cons]
        omega
      · rw [if_neg (by simp only [decide_eq_true_eq]; omega), if_neg (by simpa using a1), if_neg (by simp only [beq_iff_eq]; exact a2)]
        omega
theorem le_all {ms : List Int} {c : Int} (h : ∀ x ∈ ms, x ≤ c) : leHave ms c = ms.length := by
  unfold leHave
  rw [List.filter_eq_self.mpr fun x hx => decide_eq_true (h x hx)]
theorem dealing60_t {m q N : Int} {fs : List Int} (p : PL m q fs) (h0 : 0 ≤ N) (h1 : N ≤ 1000000000000000000000000000000) {Q : List Int → Prop} {X : Exn → Prop} (h : ∀ row : List Int, row.length = fs.length → (∀ x ∈ row, 1 ≤ x ∧ x ≤ m) → Q row) : t__law_dealing (m, q, fs) N Q X := by
  have hz := szl_eq
  have hm := p.m1
  have hm8 := p.m8
  have hn := p.n12
  have hq := p.qn
  have hq1 := p.q1
  have hqc := p.qc
  have z1 := Int.emod_nonneg N (show m ≠ 0 by omega)
  have z2 := Int.emod_lt_of_pos N (show 0 < m by omega)
  have hdl : (dspt m q fs N).length = (m + 1).toNat := arr_len
  have l0 := le_zero (ms := fs) (fun x hx => (p.rg x hx).1)
  have lm := le_all (ms := fs) (c := m) (fun x hx => (p.rg x hx).2)
  unfold t__law_dealing
  dsimp only
  refine dspots_t p ⟨⟨ty_b62 (by omega) (by omega), ty_b62 (by omega) (by omega)⟩, ?_⟩
  refine forK_ind (J := fun pre (k : List Int → Prop) => ∀ spots : List Int, (spots.length : Int) = leHave fs (pre.length : Int) - (if 1 ≤ (pre.length : Int) then q else 0) + (if N % m + 1 ≤ (pre.length : Int) then q else 0) → (∀ x ∈ spots, 1 ≤ x ∧ x ≤ m) → k spots) ?_ ?_ _ ?_ (fun _ z => by cases z)
  · intro spots e1 e2
    rw [rg_len, show (((m + 1 - 1).toNat : Nat) : Int) = m by omega, lm, if_pos (by omega), if_pos (by omega)] at e1
    refine forK_ind (J := fun pre (k : List Int → List Int → Prop) => ∀ spots2 row : List Int, spots2.length + pre.length = fs.length → (∀ x ∈ spots2, 1 ≤ x ∧ x ≤ m) → row.length = pre.length → (∀ x ∈ row, 1 ≤ x ∧ x ≤ m) → k spots2 row) ?_ ?_ _ _ (by rw [List.length_nil]; omega) e2 rfl (fun _ z => by cases z)
    · intro spots2 row f1 f2 f3 f4
      exact h row f3 f4
    · intro pre x post k e hk spots2 row f1 f2 f3 f4
      have hpl : (pre ++ [x]).length = pre.length + 1 := by rw [List.length_append, List.length_singleton]
      have hel : fs.length = pre.length + (post.length + 1) := by rw [e, List.length_append, List.length_cons]
      refine ⟨ty_ok (by omega) (by omega), ty_take fun r4 b0 b1 => ⟨⟨⟨b0, b1⟩, by omega⟩, by omega, ?_⟩⟩
      have os : ixOk spots2 r4 := ⟨b0, b1⟩
      have hc := f2 _ (gi_mem0 os)
      have he := era_len os
      refine hk _ _ (by omega) (fun y hy => f2 y (List.mem_of_mem_eraseIdx hy)) (by rw [List.length_append, List.length_singleton, hpl]; omega) (fun y hy => ?_)
      rcases List.mem_append.mp hy with hy | hy
      · exact f4 y hy
      · simp only [List.mem_singleton] at hy
        omega
  · intro pre x post k e hk spots e1 e2
    obtain ⟨hx, hxm, _⟩ := rg_split e
    have hg := dspt_gi (m := m) (q := q) (N := N) (c := x) (fs := fs) (by omega) (by omega)
    have hlc := le_cnt1 (ms := fs) (c := (pre.length : Int))
    rw [show (pre.length : Int) + 1 = x by omega] at hlc
    have hcl : fs.count x ≤ fs.length := List.count_le_length
    have hge : 0 ≤ gi (dspt m q fs N) x ∧ gi (dspt m q fs N) x ≤ 24 := by
      rw [hg]
      by_cases c : x = 1
      · rw [if_pos c]
        subst c
        split <;> omega
      · rw [if_neg c]
        split <;> omega
    have hll : leHave fs (pre.length : Int) ≤ fs.length := by
      unfold leHave
      exact Int.ofNat_le.mpr (List.length_filter_le _ _)
    have hsl : (spots.length : Int) ≤ 24 := by
      rw [e1]
      split <;> split <;> omega
    refine ⟨⟨by omega, by omega⟩, ty_b62 (by omega) (by omega), by rw [rg_len]; omega, by rw [List.length_map, rg_len]; omega, hk _ ?_ ?_⟩
    · rw [List.length_append, List.length_map, rg_len, List.length_append, List.length_singleton]
      push_cast
      simp only [show (pre.length : Int) + 1 = x by omega]
      rw [e1, hlc]
      have ht : ((gi (dspt m q fs N) x - 0).toNat : Int) = gi (dspt m q fs N) x := by omega
      rw [ht, hg]
      have k1 : (if 1 ≤ x then q else 0) = q := if_pos (by omega)
      rw [k1]
      have k2 : (if 1 ≤ (pre.length : Int) then q else 0) = q - (if x = 1 then q else 0) := by
        by_cases c : x = 1
        · rw [if_pos c, if_neg (by omega)]; omega
        · rw [if_neg c, if_pos (by omega)]; omega
      have k3 : (if N % m + 1 ≤ x then q else 0) = (if N % m + 1 ≤ (pre.length : Int) then q else 0) + (if x = N % m + 1 then q else 0) := by
        by_cases c : x = N % m + 1
        · rw [if_pos c, if_pos (by omega), if_neg (by omega)]; omega
        · rw [if_neg c]
          by_cases c2 : N % m + 1 ≤ x
          · rw [if_pos c2, if_pos (by omega)]; omega
          · rw [if_neg c2, if_neg (by omega)]; rfl
      rw [k2, k3]
      omega
    · intro y hy
      rcases List.mem_append.mp hy with hy | hy
      · exact e2 y hy
      · obtain ⟨_, _, rfl⟩ := List.mem_map.mp hy
        omega
  · rw [show (([] : List Int).length : Int) = 0 from rfl, l0, if_neg (by omega), if_neg (by omega)]
    rfl
theorem le_all27 {ms : List Int} {c : Int} (h : ∀ x ∈ ms, x ≤ c) : leHave ms c = ms.length := by
  unfold leHave
  rw [List.filter_eq_self.mpr fun x hx => decide_eq_true (h x hx)]
structure Wi (m : Int) (fs W : List Int) : Prop where
  len : W.length = fs.length
  rg : ∀ x ∈ W, 1 ≤ x ∧ x ≤ m
noncomputable def crw (m q N : Int) (fs W : List Int) : List (Str × Int × Int × Int) := (rg 1 (m + 1)).filterMap fun c => if gi (dspt m q fs N) c < ((W.count c : Nat) : Int) then some (("crowd" : Str), c, ((W.count c : Nat) : Int), gi (dspt m q fs N) c) else none
section
variable {m q N : Int} {fs W : List Int}
theorem crw_none (h : crw m q N fs W = []) {c : Int} (h1 : 1 ≤ c) (h2 : c ≤ m) : ((W.count c : Nat) : Int) ≤ gi (dspt m q fs N) c := by
  unfold crw at h
  have := (List.filterMap_eq_nil_iff.mp h) c (rg_mem.mpr ⟨h1, by omega⟩)
  by_cases z : gi (dspt m q fs N) c < ((W.count c : Nat) : Int)
  · rw [if_pos z] at this; cases this
  · omega
theorem eq_room (p : PL m q fs) (w : Wi m fs W) (h : crw m q N fs W = []) {c : Int} (h1 : 1 ≤ c) (h2 : c ≤ m) : ((W.count c : Nat) : Int) = gi (dspt m q fs N) c := by
  have hm := p.m1
  have z1 := Int.emod_nonneg N (show m ≠ 0 by omega)
  have z2 := Int.emod_lt_of_pos N (show 0 < m by omega)
  have step : ∀ c : Int, 1 ≤ c → c ≤ m → gi (dspt m q fs N) c = (leHave fs c - (if 1 ≤ c then q else 0) + (if N % m + 1 ≤ c then q else 0)) - (leHave fs (c - 1) - (if 1 ≤ c - 1 then q else 0) + (if N % m + 1 ≤ c - 1 then q else 0)) := fun c c1 c2 => by
    have e := le_cnt1 (ms := fs) (c := c - 1)
    rw [show c - 1 + 1 = c by omega] at e
    rw [dspt_gi c1 c2, e]
    by_cases a : c = 1
    · rw [if_pos a]
      split <;> split <;> split <;> split <;> omega
    · rw [if_neg a]
      split <;> split <;> split <;> split <;> omega
  have wst : ∀ c : Int, leHave W c = leHave W (c - 1) + ((W.count c : Nat) : Int) := fun c => by
    have e := le_cnt1 (ms := W) (c := c - 1)
    rw [show c - 1 + 1 = c by omega] at e
    exact e
  have w0 := le_zero (ms := W) fun x hx => (w.rg x hx).1
  have f0 := le_zero (ms := fs) fun x hx => (p.rg x hx).1
  have wm := le_all27 (ms := W) (c := m) fun x hx => (w.rg x hx).2
  have fm := le_all27 (ms := fs) (c := m) fun x hx => (p.rg x hx).2
  have hl := w.len
  have up : ∀ k : Nat, (k : Int) ≤ m → leHave W k ≤ leHave fs k - (if 1 ≤ (k : Int) then q else 0) + (if N % m + 1 ≤ (k : Int) then q else 0) := by
    intro k
    induction k with
    | zero =>
      intro _
      have : ((0 : Nat) : Int) = 0 := rfl
      rw [this, w0, f0, if_neg (by omega), if_neg (by omega)]
      omega
    | succ k ih =>
      intro hk
      have i := ih (by omega)
      have s := step ((k + 1 : Nat) : Int) (by omega) hk
      have a := wst ((k + 1 : Nat) : Int)
      have b := crw_none h (c := ((k + 1 : Nat) : Int)) (by omega) hk
      have e : ((k + 1 : Nat) : Int) - 1 = (k : Int) := by omega
      rw [e] at s a
      omega
  have down : ∀ j : Nat, (j : Int) ≤ m → leHave fs (m - j) - (if 1 ≤ m - (j : Int) then q else 0) + (if N % m + 1 ≤ m - (j : Int) then q else 0) ≤ leHave W (m - j) := by
    intro j
    induction j with
    | zero =>
      intro _
      have : m - ((0 : Nat) : Int) = m := by omega
      rw [this, wm, fm, if_pos (by omega), if_pos (by omega)]
      omega
    | succ j ih =>
      intro hj
      have i := ih (by omega)
      have s := step (m - (j : Int)) (by omega) (by omega)
      have a := wst (m - (j : Int))
      have b := crw_none h (c := m - (j : Int)) (by omega) (by omega)
      have e : m - (j : Int) - 1 = m - ((j + 1 : Nat) : Int) := by omega
      rw [e] at s a
      omega
  have u1 := up c.toNat (by omega)
  have u2 := up (c - 1).toNat (by omega)
  have d1 := down (m - c).toNat (by omega)
  have d2 := down (m - (c - 1)).toNat (by omega)
  rw [show ((c.toNat : Nat) : Int) = c by omega] at u1
  rw [show (((c - 1).toNat : Nat) : Int) = c - 1 by omega] at u2
  rw [show m - (((m - c).toNat : Nat) : Int) = c by omega] at d1
  rw [show m - (((m - (c - 1)).toNat : Nat) : Int) = c - 1 by omega] at d2
  have s := step c h1 h2
  have a := wst c
  omega
noncomputable def lplW (m q N : Int) (fs W : List Int) : List Int := (rg 1 (m + 1)).map fun c => gi (dspt m q fs N) c - ((W.count c : Nat) : Int)
theorem lpl_len (hm : 1 ≤ m) : ((lplW m q N fs W).length : Int) = m := by unfold lplW; rw [List.length_map, rg_len]; omega
theorem lpl_zero (p : PL m q fs) (w : Wi m fs W) (h : crw m q N fs W = []) : ∀ x ∈ lplW m q N fs W, x = 0 := fun x hx => by
  unfold lplW at hx
  obtain ⟨c, hc, rfl⟩ := List.mem_map.mp hx
  have := rg_mem.mp hc
  have := eq_room p w h (c := c) (by omega) (by omega)
  omega
theorem sum_zero {xs : List Int} (h : ∀ x ∈ xs, x = 0) : xs.sum = 0 := by
  induction xs with
  | nil => rfl
  | cons x xs ih =>
    rw [List.sum_cons, h x (by simp), ih fun y hy => h y (by simp [hy])]
    rfl
theorem free_nil (w : Wi m fs W) {m' q' : Int} : g_free_firsts ⟨m', q', fs⟩ W = [] := by
  unfold g_free_firsts
  rw [List.map_eq_nil_iff, List.filter_eq_nil_iff]
  intro x hx z
  have := (w.rg x.1 (List.of_mem_zip hx).1).1
  have := of_decide_eq_true z
  omega
theorem free_sd (p : PL m q fs) (w : Wi m fs W) {m' q' : Int} : sd_free_firsts ⟨m', q', fs⟩ W := by
  have hz := szl_eq
  have hn := p.n12
  unfold sd_free_firsts
  rw [List.length_zip]
  have := w.len
  dsimp only
  omega
theorem back_sd (p : PL m q fs) (w : Wi m fs W) {m' q' : Int} : sd_back_weekdays ⟨m', q', fs⟩ W := by
  have hz := szl_eq
  have hn := p.n12
  unfold sd_back_weekdays
  rw [List.length_zip]
  have := w.len
  dsimp only
  omega
theorem sur_sd (hm : 1 ≤ m) (hm8 : m ≤ 8) {l : Int} (l0 : 0 ≤ l) (l1 : l ≤ m) {r : Int} (r0 : 0 ≤ r) (r1 : r ≤ m) : sd_surplus (lplW m q N fs W) [] l r := by
  have hz := szl_eq
  have hl := lpl_len (q := q) (N := N) (fs := fs) (W := W) hm
  unfold sd_surplus
  exact ⟨⟨l0, by omega, r0, by omega⟩, by simp⟩
theorem sur_zero (p : PL m q fs) (w : Wi m fs W) (h : crw m q N fs W = []) {l r : Int} : g_surplus (lplW m q N fs W) [] l r = 0 := by
  unfold g_surplus slM
  rw [sum_zero fun x hx => lpl_zero p w h x (List.mem_of_mem_drop (List.mem_of_mem_take hx))]
  rfl
noncomputable def bkW (fs W : List Int) : List Int := (rg 0 (W.length : Int)).filter fun (i : Int) => decide (gi W i < gi fs i)
theorem zip_rg (hl : W.length = fs.length) : W.zip fs = (rg 0 (W.length : Int)).map fun i => (gi W i, gi fs i) := by
  have hl2 := hl
  apply List.ext_getElem
  · rw [List.length_zip, List.length_map, rg_len]; omega
  · intro i h1 h2
    rw [List.length_map, rg_len] at h2
    have hi : i < W.length := by omega
    have e : (rg 0 (W.length : Int))[i]'(by rw [rg_len]; omega) = (i : Int) := by simp [rg]
    rw [List.getElem_zip, List.getElem_map, e, gi_nat hi, gi_nat (show i < fs.length by omega)]
theorem backs_eq (w : Wi m fs W) {m' q' : Int} : g_back_weekdays ⟨m', q', fs⟩ W = (bkW fs W).map fun i => gi W i := by
  unfold g_back_weekdays bkW
  dsimp only
  rw [zip_rg w.len, List.filter_map, List.map_map]
  have : (rg 0 (W.length : Int)).filter ((fun (r1 : Int × Int) => decide (0 < r1.1 ∧ r1.1 < r1.2)) ∘ fun i => (gi W i, gi fs i)) = (rg 0 (W.length : Int)).filter fun (i : Int) => decide (gi W i < gi fs i) := List.filter_congr fun i hi => by
    have hi' := rg_mem.mp hi
    have := (w.rg _ (gi_mem0 (xs := W) (i := i) ⟨by omega, by omega⟩)).1
    rw [Bool.eq_iff_iff, Function.comp_apply, decide_eq_true_iff, decide_eq_true_iff]
    exact ⟨fun z => z.2, fun z => ⟨by omega, z⟩⟩
  rw [this]
  rfl
theorem late_eq (w : Wi m fs W) {m' q' z : Int} : ((g_back_weekdays ⟨m', q', fs⟩ W).filter fun (weekday : Int) => decide (z < weekday)).length = ((bkW fs W).filter fun (i : Int) => decide (z < gi W i)).length := by
  rw [backs_eq w, List.filter_map, List.length_map]
  rfl
end
section
variable {m q N : Int} {fs W : List Int}
theorem cwr_t (p : PL m q fs) (h0 : 0 ≤ N) (h1 : N ≤ 1000000000000000000000000000000) {Q : List (Str × Int × Int × Int) → Prop} {X : Exn → Prop} (h : Q (crw m q N fs W)) : t_crowd_reasons ⟨m, q, fs⟩ N W Q X := by
  have hz := szl_eq
  have hm := p.m1
  have hm8 := p.m8
  unfold t_crowd_reasons
  refine due_t p h0 h1 ?_
  rw [en_due hm]
  have e : crw m q N fs W = ((rg 1 (m + 1)).map fun c => (c, gi (dspt m q fs N) c)).filterMap fun r2 : Int × Int => if r2.2 < ((W.count r2.1 : Nat) : Int) then some (("crowd" : Str), r2.1, ((W.count r2.1 : Nat) : Int), r2.2) else none := by
    unfold crw
    rw [List.filterMap_map]
    rfl
  rw [e] at h
  refine forK_fm _ ?_ ?_ h
  · rw [List.length_map, rg_len]; omega
  · intro pre x post k row e hr g1 g2
    refine ty_sub (ty_if (fun c => ⟨hr, g1 _ (by rw [if_pos c])⟩) (fun c => g2 (by rw [if_neg c])))
theorem lpl_t (p : PL m q fs) (h0 : 0 ≤ N) (h1 : N ≤ 1000000000000000000000000000000) {Q : List Int → Prop} {X : Exn → Prop} (h : Q (lplW m q N fs W)) : t_left_places ⟨m, q, fs⟩ N W Q X := by
  have hz := szl_eq
  have hm := p.m1
  have hm8 := p.m8
  unfold t_left_places
  refine due_t p h0 h1 ?_
  rw [en_due hm]
  refine ⟨by rw [List.length_map, rg_len]; omega, lcK_map (fun r2 : Int × Int => r2.2 - ((W.count r2.1 : Nat) : Int)) (fun _ _ _ _ _ hk => hk) ?_⟩
  rw [List.map_map]
  exact h
noncomputable def neeC (m q N : Int) (fs W : List Int) : List (Int × Int) := g_back_needs (lplW m q N fs W) [] (((bkW fs W).length : Nat) : Int)
noncomputable def neeL (m q N : Int) (fs W : List Int) : List (Int × Int) := g_last_needs (lplW m q N fs W) [] (N % m + 1) ((((bkW fs W).filter fun (i : Int) => decide (N % m + 1 < gi W i)).length : Nat) : Int)
theorem wd_last (N m : Int) : wd m (N + 1) = N % m + 1 := by
  unfold wd
  rw [show N + 1 - 1 = N by omega]
theorem cln_t (p : PL m q fs) (w : Wi m fs W) (h0 : 0 ≤ N) (h1 : N ≤ 1000000000000000000000000000000) {Q : List (Int × Int) → Prop} {X : Exn → Prop} (h : Q (neeC m q N fs W)) : t_closing_needs ⟨m, q, fs⟩ N W Q X := by
  have hz := szl_eq
  have hm := p.m1
  have hm8 := p.m8
  have hl := lpl_len (q := q) (N := N) (fs := fs) (W := W) hm
  unfold t_closing_needs
  refine ⟨back_sd p w, ty_sub (lpl_t p h0 h1 ⟨free_sd p w, ?_⟩)⟩
  rw [free_nil w, backs_eq w, List.length_map]
  refine ⟨⟨ty_b62 (by omega) (by omega), by rw [rg_len]; omega, fun r hr => ?_⟩, h⟩
  have := rg_mem.mp hr
  exact sur_sd hm hm8 (Int.le_refl 0) (by omega) (by omega) (by omega)
theorem lan_t (p : PL m q fs) (w : Wi m fs W) (h0 : 0 ≤ N) (h1 : N ≤ 1000000000000000000000000000000) {Q : List (Int × Int) → Prop} {X : Exn → Prop} (h : Q (neeL m q N fs W)) : t_late_needs ⟨m, q, fs⟩ N W Q X := by
  have hz := szl_eq
  have hm := p.m1
  have hm8 := p.m8
  have hn := p.n12
  have z1 := Int.emod_nonneg N (show m ≠ 0 by omega)
  have z2 := Int.emod_lt_of_pos N (show 0 < m by omega)
  have hl := lpl_len (q := q) (N := N) (fs := fs) (W := W) hm
  unfold t_late_needs
  refine lastwd_t h0 h1 hm ?_
  dsimp only
  rw [wd_last]
  refine ⟨back_sd p w, ?_, ty_sub (lpl_t p h0 h1 ⟨free_sd p w, ?_⟩)⟩
  · rw [backs_eq w, List.length_map]
    unfold bkW
    have := List.length_filter_le (fun (i : Int) => decide (gi W i < gi fs i)) (rg 0 (W.length : Int))
    rw [rg_len] at this
    have := w.len
    omega
  · rw [free_nil w, late_eq w]
    refine ⟨⟨⟨ty_b62 (by omega) (by omega), ty_b62 (by omega) (by omega)⟩, by rw [rg_len]; omega, fun r hr => ?_⟩, h⟩
    have := rg_mem.mp hr
    exact sur_sd hm hm8 (by omega) (by omega) (by omega) (by omega)
noncomputable def whyW (m q N : Int) (fs W : List Int) : List (Str × Int × Int × Int) := (crw m q N fs W ++ g_need_reasons ("closings" : Str) (neeC m q N fs W) (q * (N / m))) ++ g_need_reasons ("lasts" : Str) (neeL m q N fs W) (q * mx 0 (N / m - 1))
theorem wish_t (p : PL m q fs) (w : Wi m fs W) (h0 : 0 ≤ N) (h1 : N ≤ 1000000000000000000000000000000) {Q : List (Str × Int × Int × Int) → Prop} {X : Exn → Prop} (h : Q (whyW m q N fs W)) : t_wish_reasons ⟨m, q, fs⟩ N W Q X := by
  have hz := szl_eq
  have hm := p.m1
  have hm8 := p.m8
  have hn := p.n12
  have hqn := p.qn
  have hq1 := p.q1
  have z1 := Int.emod_nonneg N (show m ≠ 0 by omega)
  have z2 := Int.emod_lt_of_pos N (show 0 < m by omega)
  have hl := lpl_len (q := q) (N := N) (fs := fs) (W := W) hm
  have lC : (neeC m q N fs W).length ≤ 20 := by
    unfold neeC g_back_needs
    rw [List.length_map, rg_len]
    omega
  have lL : (neeL m q N fs W).length ≤ 20 := by
    unfold neeL g_last_needs
    rw [List.length_map, rg_len]
    omega
  have lc : (crw m q N fs W).length ≤ 20 := by
    have := fm_len (f := fun c => if gi (dspt m q fs N) c < ((W.count c : Nat) : Int) then some (("crowd" : Str), c, ((W.count c : Nat) : Int), gi (dspt m q fs N) c) else none) (xs := rg 1 (m + 1))
    rw [rg_len] at this
    unfold crw
    omega
  have ln : ∀ (s : Str) (xs : List (Int × Int)) (c : Int), xs.length ≤ 20 → (g_need_reasons s xs c).length ≤ 20 := fun s xs c hx => by
    unfold g_need_reasons
    rw [List.length_map]
    exact Nat.le_trans (List.length_filter_le _ _) hx
  have nC := ln ("closings" : Str) _ (q * (N / m)) lC
  have nL := ln ("lasts" : Str) _ (q * mx 0 (N / m - 1)) lL
  unfold t_wish_reasons t_Depot_closings t_check_days
  refine ty_ifF (fun z => z ⟨h0, h1⟩) ⟨ty_div (by dsimp only; omega) (by dsimp only; omega), cwr_t p h0 h1 (cln_t p w h0 h1 ⟨ty_mulL (by dsimp only; omega) (by dsimp only; omega), by unfold sd_need_reasons; omega, by dsimp only; omega, lan_t p w h0 h1 ⟨ty_mulL (by dsimp only; omega) (by dsimp only; omega), by unfold sd_need_reasons; omega, ?_, h⟩⟩)⟩
  dsimp only
  rw [List.length_append]
  omega
theorem need_head {s : Str} {x : Int × Int} {xs : List (Int × Int)} {c : Int} (h : c < x.2) : g_need_reasons s (x :: xs) c = (s, x.1, x.2, c) :: g_need_reasons s xs c := by
  unfold g_need_reasons
  rw [List.filter_cons_of_pos (by simpa using h), List.map_cons]
theorem need_nil {s : Str} {xs : List (Int × Int)} {c : Int} (h : ∀ x ∈ xs, x.2 ≤ c) : g_need_reasons s xs c = [] := by
  unfold g_need_reasons
  rw [List.map_eq_nil_iff, List.filter_eq_nil_iff]
  intro x hx z
  have := of_decide_eq_true z
  have := h x hx
  omega
theorem rg_head {a b : Int} (h : a < b) : rg a b = a :: rg (a + 1) b := rg_cons h
end
theorem mem_rgc {n x : Int} (h0 : 0 ≤ n) (h : x ∈ rgc n 0 (-1)) : 1 ≤ x ∧ x ≤ n := by
  unfold rgc at h
  rw [rgN_down] at h
  obtain ⟨k, hk, rfl⟩ := List.mem_map.mp h
  have := List.mem_range.mp hk
  omega
theorem deal_t {ps : List Int} (h0 : ∀ x ∈ ps, x = 0) (hl : ps.length ≤ 100) {Q : List Int → Prop} {X : Exn → Prop} (h : Q []) : t_deal ps [] Q X := by
  have hz := szl_eq
  unfold t_deal
  refine ⟨⟨by simp, by simp⟩, ty_sub ⟨RgK.down (ty_b62n (by omega)) ⟨by decide, by decide⟩, ?_⟩⟩
  refine forK_ind (J := fun _ (k : List Int → List Int → Prop) => k [] []) ?_ ?_
  · exact ⟨by simp, fun _ z => (by cases z), h⟩
  · intro pre x post k e hk
    have hx := mem_rgc (n := (ps.length : Int)) (x := x) (by omega) (by rw [e]; simp)
    have ok : ixOk ps (x - 1) := ⟨by omega, by omega⟩
    have hv := h0 _ (gi_mem0 ok)
    refine ⟨ok, ?_, ?_⟩
    · rw [hv]; exact ⟨by decide, by decide⟩
    · rw [hv]
      exact hk
section
variable {m q N : Int} {fs W : List Int}
theorem comp27_t (p : PL m q fs) (w : Wi m fs W) (h0 : 0 ≤ N) (h1 : N ≤ 1000000000000000000000000000000) (hc : crw m q N fs W = []) {Q : List Int → Prop} {X : Exn → Prop} (h : Q W) : t_completed ⟨m, q, fs⟩ N W Q X := by
  have hz := szl_eq
  have hm := p.m1
  have hm8 := p.m8
  have hn := p.n12
  have hw := w.len
  have hl := lpl_len (q := q) (N := N) (fs := fs) (W := W) hm
  unfold t_completed
  refine lpl_t p h0 h1 ⟨free_sd p w, ?_⟩
  rw [free_nil w]
  refine deal_t (lpl_zero p w hc) (by omega) ⟨by rw [en_len]; omega, ty_sub ?_⟩
  rw [List.zip_nil_right]
  exact h
theorem neeC_head (p : PL m q fs) (w : Wi m fs W) (hc : crw m q N fs W = []) : (∃ xs, neeC m q N fs W = (0, (((bkW fs W).length : Nat) : Int)) :: xs) ∧ ∀ x ∈ neeC m q N fs W, x.2 = (((bkW fs W).length : Nat) : Int) := by
  have hm := p.m1
  have hl := lpl_len (q := q) (N := N) (fs := fs) (W := W) hm
  unfold neeC g_back_needs
  constructor
  · rw [rg_head (show (0 : Int) < ((lplW m q N fs W).length : Int) + 1 by omega), List.map_cons, sur_zero p w hc, Int.add_zero]
    exact ⟨_, rfl⟩
  · intro x hx
    obtain ⟨r, _, rfl⟩ := List.mem_map.mp hx
    dsimp only
    rw [sur_zero p w hc, Int.add_zero]
theorem neeL_head (p : PL m q fs) (w : Wi m fs W) (hc : crw m q N fs W = []) : (∃ xs, neeL m q N fs W = (N % m + 1, ((((bkW fs W).filter fun (i : Int) => decide (N % m + 1 < gi W i)).length : Nat) : Int)) :: xs) ∧ ∀ x ∈ neeL m q N fs W, x.2 = ((((bkW fs W).filter fun (i : Int) => decide (N % m + 1 < gi W i)).length : Nat) : Int) := by
  have hm := p.m1
  have z1 := Int.emod_nonneg N (show m ≠ 0 by omega)
  have z2 := Int.emod_lt_of_pos N (show 0 < m by omega)
  have hl := lpl_len (q := q) (N := N) (fs := fs) (W := W) hm
  have m0 : mx 0 0 = 0 := by decide
  unfold neeL g_last_needs
  constructor
  · rw [rg_head (show N % m + 1 < ((lplW m q N fs W).length : Int) + 1 by omega), List.map_cons, sur_zero p w hc, m0, Int.add_zero]
    exact ⟨_, rfl⟩
  · intro x hx
    obtain ⟨r, _, rfl⟩ := List.mem_map.mp hx
    dsimp only
    rw [sur_zero p w hc, m0, Int.add_zero]
noncomputable def blW (fs W : List Int) : Int := (((bkW fs W).length : Nat) : Int)
noncomputable def b2W (m N : Int) (fs W : List Int) : Int := ((((bkW fs W).filter fun (i : Int) => decide (N % m + 1 < gi W i)).length : Nat) : Int)
theorem reach27_t (p : PL m q fs) (w : Wi m fs W) (h0 : 0 ≤ N) (h1 : N ≤ 1000000000000000000000000000000) {Q0 : Str × Int × Int × Int → Prop} {Q1 : Str × List Int → Prop} {X : Exn → Prop} (hA : crw m q N fs W ≠ [] → Q0 (gi (crw m q N fs W) 0)) (hB : crw m q N fs W = [] → q * (N / m) < blW fs W → Q0 (("closings" : Str), 0, blW fs W, q * (N / m)))
    (hC : crw m q N fs W = [] → ¬ (q * (N / m) < blW fs W) → q * mx 0 (N / m - 1) < b2W m N fs W → Q0 (("lasts" : Str), N % m + 1, b2W m N fs W, q * mx 0 (N / m - 1))) (hD : crw m q N fs W = [] → ¬ (q * (N / m) < blW fs W) → ¬ (q * mx 0 (N / m - 1) < b2W m N fs W) → Q1 (("reached" : Str), W)) : t_reach ⟨m, q, fs⟩ N W Q0 Q1 X := by
  have hz := szl_eq
  have hm := p.m1
  have hw := w.len
  unfold t_reach t_check_days t_check_wish t_check_weekdays
  refine ty_ifF (fun z => z ⟨h0, h1⟩) (ty_ifF (fun z => z (by unfold g_Depot_size; dsimp only; omega)) (forK_all (P := fun _ => True) ?_ (fun _ => wish_t p w h0 h1 ?_)))
  · intro pre x post k e _ hk
    have hx : x ∈ en 0 W := by rw [e]; simp
    have hx2 : x.2 ∈ W := by
      unfold en at hx
      obtain ⟨y, hy, rfl⟩ := List.mem_map.mp hx
      exact (List.mem_zipIdx hy).2.2 ▸ List.getElem_mem _
    have := w.rg _ hx2
    exact ty_ifF (fun z => z ⟨by omega, by dsimp only; omega⟩) (hk trivial)
  have done : whyW m q N fs W = [] → t_completed ⟨m, q, fs⟩ N W (fun (r3 : List Int) => Q1 (("reached" : Str), r3)) X → ifP (whyW m q N fs W ≠ []) (ixOk (whyW m q N fs W) 0 ∧ Q0 (gi (whyW m q N fs W) 0)) (t_completed ⟨m, q, fs⟩ N W (fun (r3 : List Int) => Q1 (("reached" : Str), r3)) X) := fun e h => ty_ifF (fun z => z e) h
  have told : ∀ v, (∃ xs, whyW m q N fs W = v :: xs) → Q0 v → ifP (whyW m q N fs W ≠ []) (ixOk (whyW m q N fs W) 0 ∧ Q0 (gi (whyW m q N fs W) 0)) (t_completed ⟨m, q, fs⟩ N W (fun (r3 : List Int) => Q1 (("reached" : Str), r3)) X) := fun v e h => by
    obtain ⟨xs, e⟩ := e
    rw [e]
    exact ty_ifT (by simp) ⟨⟨Int.le_refl 0, by simp⟩, h⟩
  by_cases hc : crw m q N fs W = []
  · obtain ⟨⟨xs, c1⟩, c2⟩ := neeC_head p w hc
    obtain ⟨⟨ys, l1⟩, l2⟩ := neeL_head p w hc
    by_cases b : q * (N / m) < blW fs W
    · refine told (("closings" : Str), 0, blW fs W, q * (N / m)) ?_ (hB hc b)
      unfold whyW
      rw [hc, List.nil_append, c1, need_head (show q * (N / m) < (((bkW fs W).length : Nat) : Int) from b), List.cons_append]
      exact ⟨_, rfl⟩
    · have e1 : g_need_reasons ("closings" : Str) (neeC m q N fs W) (q * (N / m)) = [] := need_nil fun x hx => by
        rw [c2 x hx]
        unfold blW at b
        omega
      by_cases l : q * mx 0 (N / m - 1) < b2W m N fs W
      · refine told (("lasts" : Str), N % m + 1, b2W m N fs W, q * mx 0 (N / m - 1)) ?_ (hC hc b l)
        unfold whyW
        rw [hc, e1, List.nil_append, List.nil_append, l1, need_head (show q * mx 0 (N / m - 1) < ((((bkW fs W).filter fun (i : Int) => decide (N % m + 1 < gi W i)).length : Nat) : Int) from l)]
        exact ⟨_, rfl⟩
      · have e2 : g_need_reasons ("lasts" : Str) (neeL m q N fs W) (q * mx 0 (N / m - 1)) = [] := need_nil fun x hx => by
          rw [l2 x hx]
          unfold b2W at l
          omega
        refine done ?_ (comp27_t p w h0 h1 hc (hD hc b l))
        unfold whyW
        rw [hc, e1, e2]
        rfl
  · cases hh : crw m q N fs W with
    | nil => exact absurd hh hc
    | cons v vs =>
      refine told v ?_ ?_
      · unfold whyW
        rw [hh]
        exact ⟨_, rfl⟩
      · have := hA hc
        rw [hh] at this
        exact this
theorem fl_fs {α : Type} {v : Int → Option α} {B : α → Prop} {K : Prop} {body : Int → Prop → Prop} : ∀ xs : List Int, (∀ x ∈ xs, ∀ k : Prop, (∀ y, v x = some y → B y) → (v x = none → k) → body x k) → (∀ y, (xs.filterMap v).head? = some y → B y) → (xs.filterMap v = [] → K) → forK xs body K
  | [], _, _, hk => hk rfl
  | x :: xs, hb, ha, hk => by
    refine hb x List.mem_cons_self _ (fun y hy => ha y ?_) (fun hn => fl_fs (v := v) (B := B) xs (fun z hz => hb z (List.mem_cons_of_mem _ hz)) (fun y hy => ha y ?_) (fun hn2 => hk ?_))
    · rw [List.filterMap_cons_some hy]; rfl
    · rw [List.filterMap_cons_none hn]; exact hy
    · rw [List.filterMap_cons_none hn]; exact hn2
theorem cnt27_t (p : PL m q fs) (w : Wi m fs W) (h0 : 0 ≤ N) {Q0 : Str × Int × Int × Int → Prop} {Q1 : Str × Int × Int → Prop} {Q2 : Str × List Int → Prop} {X : Exn → Prop} (hA : crw m q N fs W ≠ [] → Q0 (gi (crw m q N fs W) 0)) (hB : crw m q N fs W = [] → q * (N / m) < blW fs W → Q1 (("closings" : Str), blW fs W, q * (N / m)))
    (hC : crw m q N fs W = [] → ¬ (q * (N / m) < blW fs W) → q * mx 0 (N / m - 1) < b2W m N fs W → Q1 (("lasts" : Str), b2W m N fs W, q * mx 0 (N / m - 1))) (hD : crw m q N fs W = [] → ¬ (q * (N / m) < blW fs W) → ¬ (q * mx 0 (N / m - 1) < b2W m N fs W) → Q2 (("reached" : Str), W)) : t__law_counted (m, q, fs) N W Q0 Q1 Q2 X := by
  have hz := szl_eq
  have hm := p.m1
  have hm8 := p.m8
  have hn := p.n12
  have hqn := p.qn
  have hq1 := p.q1
  have hw := w.len
  have z1 := Int.emod_nonneg N (show m ≠ 0 by omega)
  have z2 := Int.emod_lt_of_pos N (show 0 < m by omega)
  have hbk : (bkW fs W).length ≤ 12 := by
    have := List.length_filter_le (fun (i : Int) => decide (gi W i < gi fs i)) (rg 0 (W.length : Int))
    rw [rg_len] at this
    unfold bkW
    omega
  have okb : ∀ i ∈ bkW fs W, ixOk W i := fun i hi => by
    have := rg_mem.mp (List.mem_filter.mp hi).1
    exact ⟨by omega, by omega⟩
  have ok1 : ∀ i ∈ rg 0 (W.length : Int), ixOk W i := fun i hi => by have := rg_mem.mp hi; exact ⟨by omega, by omega⟩
  have ok2 : ∀ i ∈ rg 0 (W.length : Int), ixOk fs i := fun i hi => by have := rg_mem.mp hi; exact ⟨by omega, by omega⟩
  unfold t__law_counted
  dsimp only
  refine ⟨ty_div (by omega) (by omega), ty_sub (dspots_t p ⟨⟨ty_b62 (by omega) (by omega), ty_b62 (by omega) (by omega)⟩, ?_⟩)⟩
  refine fl_fs (v := fun c => if gi (dspt m q fs N) c < ((W.count c : Nat) : Int) then some (("crowd" : Str), c, ((W.count c : Nat) : Int), gi (dspt m q fs N) c) else none) (B := Q0) _ (fun c hc k g1 g2 => ?_) (fun y hy => ?_) (fun hnil => ?_)
  · have hc' := rg_mem.mp hc
    have ok : ixOk (dspt m q fs N) c := by unfold dspt; exact ok_arr.mpr ⟨by omega, by omega⟩
    have ec : ((W.filter fun (x : Int) => decide (x = c)).length : Int) = ((W.count c : Nat) : Int) := by
      rw [List.count, List.countP_eq_length_filter]
      congr 2
    rw [ec]
    exact ⟨by omega, ty_sub ⟨ok, ty_if (fun z => ⟨ok, g1 _ (if_pos z)⟩) (fun z => g2 (if_neg z))⟩⟩
  · change (crw m q N fs W).head? = some y at hy
    cases hh : crw m q N fs W with
    | nil => rw [hh] at hy; cases hy
    | cons v vs =>
      have hne : crw m q N fs W ≠ [] := by rw [hh]; simp
      have := hA hne
      rw [hh] at hy this
      cases hy
      exact this
  · change crw m q N fs W = [] at hnil
    refine ⟨ty_b62n (by omega), by rw [rg_len]; omega, ok1, ok2, ?_⟩
    have mq : ∀ y, mulT q y := fun y => ty_mulL (by omega) (by omega)
    refine ty_sub ⟨mq _, ty_if (fun c => ⟨mq _, hB hnil c⟩) (fun c => ⟨?_, okb, fun _ _ => (show 0 < m by omega), ty_sub ⟨mq _, ty_if (fun c2 => ⟨mq _, hC hnil c c2⟩) (fun c2 => hD hnil c c2)⟩⟩)⟩
    show (bkW fs W).length ≤ szl
    omega
end
theorem s27a : PyData.strOk ("crowd" : Str) = true := by decide +kernel
theorem s27b : PyData.strOk ("closings" : Str) = true := by decide +kernel
theorem s27c : PyData.strOk ("lasts" : Str) = true := by decide +kernel
theorem s27d : PyData.strOk ("reached" : Str) = true := by decide +kernel
theorem n27a : ("closings" : Str) ≠ ("crowd" : Str) := by decide +kernel
theorem n27b : ("closings" : Str) ≠ ("reached" : Str) := by decide +kernel
theorem n27c : ("lasts" : Str) ≠ ("crowd" : Str) := by decide +kernel
theorem n27d : ("lasts" : Str) ≠ ("reached" : Str) := by decide +kernel
theorem n27e : ("crowd" : Str) ≠ ("reached" : Str) := by decide +kernel
theorem n27f : ("closings" : Str) ≠ ("lasts" : Str) := by decide +kernel
theorem r44_t {c a b z m : Int} {Q : Bool → Prop} {X : Exn → Prop} (h : Q true) : t__law_right (("crowd" : Str), c, a, b) (("crowd" : Str), c, a, b) z m Q X := by
  unfold t__law_right
  exact ⟨s27a, fun _ => s27a, ty_ifT (.inl rfl) ⟨sameT_of (okS_t4 (n := 5) (d0 := .str ("crowd" : Str)) (d1 := .int c) (d2 := .int a) (d3 := .int b) s27a trivial trivial trivial) rfl, h⟩⟩
theorem r43a_t {a b z m : Int} (hm : 0 ≤ m) {Q : Bool → Prop} {X : Exn → Prop} (h : Q true) : t__law_right_4 (("closings" : Str), 0, a, b) (("closings" : Str), a, b) z m Q X := by
  unfold t__law_right_4
  refine ⟨s27b, fun _ => s27b, ty_ifF (fun y => y.elim n27a n27b) (ty_ifF (fun y => y rfl) ⟨fun _ _ => s27b, ty_ifF ?_ ⟨sameT_of (okS_t4 (n := 5) (d0 := .str ("closings" : Str)) (d1 := .int 0) (d2 := .int a) (d3 := .int b) s27b trivial trivial trivial) rfl, h⟩⟩)⟩
  rintro (y | y | y)
  · dsimp only at y; omega
  · dsimp only at y; omega
  · exact n27f y.1
theorem r43b_t {a b z m : Int} (h0 : 0 ≤ z) (hm : z ≤ m) {Q : Bool → Prop} {X : Exn → Prop} (h : Q true) : t__law_right_4 (("lasts" : Str), z, a, b) (("lasts" : Str), a, b) z m Q X := by
  unfold t__law_right_4
  refine ⟨s27c, fun _ => s27c, ty_ifF (fun y => y.elim n27c n27d) (ty_ifF (fun y => y rfl) ⟨fun _ _ => s27c, ty_ifF ?_ ⟨sameT_of (okS_t4 (n := 5) (d0 := .str ("lasts" : Str)) (d1 := .int z) (d2 := .int a) (d3 := .int b) s27c trivial trivial trivial) rfl, h⟩⟩)⟩
  rintro (y | y | y)
  · dsimp only at y; omega
  · dsimp only at y; omega
  · have := y.2
    dsimp only at this
    omega
theorem r22_t {W : List Int} {z m : Int} (hl : W.length ≤ 100) {Q : Bool → Prop} {X : Exn → Prop} (h : Q true) : t__law_right_9 (("reached" : Str), W) (("reached" : Str), W) z m Q X := by
  have hz := szl_eq
  unfold t__law_right_9
  exact ⟨s27d, fun _ => s27d, ty_ifT (.inr rfl) ⟨sameT_of (okS_t2 (n := 5) (d0 := .str ("reached" : Str)) s27d (okS_lstI (n := 3) (by dsimp only; omega))) rfl, h⟩⟩
theorem r22v_t {W : List Int} {z m : Int} (hl : W.length ≤ 100) {Q : Bool → Prop} {X : Exn → Prop} (h : Q true) : t__law_right_10 (("reached" : Str), W) (("reached" : Str), W) z m Q X := by
  have hz := szl_eq
  unfold t__law_right_10
  refine ⟨s27d, fun _ => s27d, ty_ifT (.inr rfl) ⟨sameT_of (okS_t2 (n := 5) (d0 := .str ("reached" : Str)) (d1 := .vw (W.map D.int)) s27d ⟨by rw [List.length_map]; omega, okS_ints W⟩) rfl, h⟩⟩
theorem ty_inv27 {α : Type} {P : α → Prop} {F : (α → Prop) → Prop} {K : α → Prop} (hF : ∀ k : α → Prop, (∀ x, P x → k x) → F k) (hK : ∀ x, P x → K x) : jn F K := hF K hK
section
variable {m q N : Int} {fs W : List Int}
theorem twice_t (p : PL m q fs) (w : Wi m fs W) (h0 : 0 ≤ N) (h1 : N ≤ 1000000000000000000000000000000) {Q : Bool → Prop} {X : Exn → Prop} (hq : Q true) : t__law_twice (m, q, fs) ⟨m, q, fs⟩ N W Q X := by
  have hz := szl_eq
  have hm := p.m1
  have hm8 := p.m8
  have hn := p.n12
  have hqn := p.qn
  have hq1 := p.q1
  have hw := w.len
  have z1 := Int.emod_nonneg N (show m ≠ 0 by omega)
  have z2 := Int.emod_lt_of_pos N (show 0 < m by omega)
  have ok : ixOk W 0 := ⟨Int.le_refl 0, by omega⟩
  unfold t__law_twice
  refine ⟨(show 0 < m by omega), ty_sub (cnt27_t p w h0 (fun hc => ?_) (fun hc b => ?_) (fun hc b l => ?_) (fun hc b l => ?_))⟩
  · have hv : ∃ c a b, gi (crw m q N fs W) 0 = (("crowd" : Str), c, a, b) := by
      have hx := gi_mem0 (xs := crw m q N fs W) (i := 0) ⟨Int.le_refl 0, by have := List.length_pos_iff.mpr hc; omega⟩
      generalize gi (crw m q N fs W) 0 = v at *
      unfold crw at hx
      obtain ⟨c, _, e⟩ := List.mem_filterMap.mp hx
      split at e
      · cases e; exact ⟨_, _, _, rfl⟩
      · cases e
    obtain ⟨c, a, b, hv⟩ := hv
    rw [hv]
    refine reach27_t p w h0 h1 (fun _ => ?_) (fun z => absurd z hc) (fun z => absurd z hc) (fun z => absurd z hc)
    rw [hv]
    refine ty_inv27 (P := fun x : Bool => x = false) (fun k hk => ty_ifF (fun z => z rfl) (r44_t (hk _ rfl))) ?_
    rintro x rfl
    refine ty_ifF Bool.false_ne_true ⟨ok, ⟨s27a, ty_ifF n27e ?_⟩⟩
    refine reach27_t p w h0 h1 (fun _ => ?_) (fun z => absurd z hc) (fun z => absurd z hc) (fun z => absurd z hc)
    rw [hv]
    exact r44_t hq
  · refine reach27_t p w h0 h1 (fun z => absurd hc z) (fun _ _ => ?_) (fun _ z => absurd b z) (fun _ z => absurd b z)
    refine ty_inv27 (P := fun x : Bool => x = false) (fun k hk => ty_ifF (fun z => z rfl) (r43a_t (by omega) (hk _ rfl))) ?_
    rintro x rfl
    refine ty_ifF Bool.false_ne_true ⟨ok, ⟨s27b, ty_ifF n27b ?_⟩⟩
    exact reach27_t p w h0 h1 (fun z => absurd hc z) (fun _ _ => r43a_t (by omega) hq) (fun _ z => absurd b z) (fun _ z => absurd b z)
  · refine reach27_t p w h0 h1 (fun z => absurd hc z) (fun _ z => absurd z b) (fun _ _ _ => ?_) (fun _ _ z => absurd l z)
    refine ty_inv27 (P := fun x : Bool => x = false) (fun k hk => ty_ifF (fun z => z rfl) (r43b_t (by omega) (by omega) (hk _ rfl))) ?_
    rintro x rfl
    refine ty_ifF Bool.false_ne_true ⟨ok, ⟨s27c, ty_ifF n27d ?_⟩⟩
    exact reach27_t p w h0 h1 (fun z => absurd hc z) (fun _ z => absurd z b) (fun _ _ _ => r43b_t (by omega) (by omega) hq) (fun _ _ z => absurd l z)
  · refine reach27_t p w h0 h1 (fun z => absurd hc z) (fun _ z => absurd z b) (fun _ _ z => absurd z l) (fun _ _ _ => ?_)
    refine ty_inv27 (P := fun x : Bool => x = false) (fun k hk => ty_ifF (fun z => z rfl) (r22v_t (by omega) (hk _ rfl))) ?_
    rintro x rfl
    refine ty_ifF Bool.false_ne_true ⟨ok, ⟨s27d, ty_ifT rfl ⟨ok, fun g hg => ⟨?_, fun g2 _ => ?_⟩⟩⟩⟩
    · dsimp only
      rcases hg with e | e
      · rw [e]; dsimp only; omega
      · rw [e, st_len]; dsimp only; omega
    · exact reach27_t p w h0 h1 (fun z => absurd hc z) (fun _ z => absurd z b) (fun _ _ z => absurd z l) (fun _ _ _ => r22_t (by omega) hq)
theorem few_t (p : PL m q fs) (w : Wi m fs W) {z : Int} {Q : Int → Prop} {X : Exn → Prop} (h : ∀ j, 0 ≤ j → j ≤ 13 → Q j) : t__law_fewest (m, q, fs) z W Q X := by
  have hz := szl_eq
  have hn := p.n12
  have hqn := p.qn
  have hq1 := p.q1
  have hw := w.len
  have ok1 : ∀ i ∈ rg 0 (W.length : Int), ixOk W i := fun i hi => by have := rg_mem.mp hi; exact ⟨by omega, by omega⟩
  have ok2 : ∀ i ∈ rg 0 (W.length : Int), ixOk fs i := fun i hi => by have := rg_mem.mp hi; exact ⟨by omega, by omega⟩
  have mq : ∀ y, mulT q y := fun y => ty_mulL (by omega) (by omega)
  unfold t__law_fewest
  dsimp only
  refine ⟨ty_b62n (by omega), by rw [rg_len]; omega, ok1, ok2, ty_sub ⟨?_, fun i hi => ok1 i (List.mem_filter.mp hi).1, ty_sub ?_⟩⟩
  · have := List.length_filter_le (fun (i : Int) => decide (gi W i < gi fs i)) (rg 0 (W.length : Int))
    rw [rg_len] at this
    omega
  · refine forK_all (P := fun _ => True) ?_ (fun _ => h 13 (by omega) (by omega))
    intro pre x post k e _ hk
    obtain ⟨hx, hxm, _⟩ := rg_split e
    exact ⟨mq _, fun _ => mq _, ty_if (fun _ => h x (by omega) (by omega)) (fun _ => hk trivial)⟩
theorem st_mem {xs : List Int} {i y x : Int} (h : x ∈ st xs i y) : x ∈ xs ∨ x = y := by
  unfold st at h
  exact List.mem_or_eq_of_mem_set h
theorem every_t (p : PL m q fs) (h0 : 0 ≤ N) (h1 : N ≤ 1000000000000000000000000000000) {Q : List Int → Prop} {X : Exn → Prop} (h : ∀ W, Wi m fs W → Q W) : t__law_everybody (m, q, fs) N Q X := by
  have hz := szl_eq
  have hm := p.m1
  have hm8 := p.m8
  have hn := p.n12
  unfold t__law_everybody
  refine ty_take fun way _ _ => ty_if (fun _ => ⟨by dsimp only; omega, ?_⟩) (fun _ => dealing60_t p h0 h1 fun row r1 r2 => ty_if (fun _ => h row ⟨r1, r2⟩) (fun _ => ?_))
  · have key : ∀ (xs es : List Int), (es ++ xs).length = fs.length → (∀ x ∈ es, 1 ≤ x ∧ x ≤ m) → lcK (fun (first2 : Int) (k : Option Int → Prop) => takeOk m ∧ takeT m (fun (r1 : Int) => k (some (1 + r1)))) (fun (es : List Int) => Q es) xs es := by
      intro xs
      induction xs with
      | nil => intro es he hn2; exact h _ ⟨by rw [List.append_nil] at he; exact he, hn2⟩
      | cons x xs ih =>
        intro es he hn2
        rw [List.length_append, List.length_cons] at he
        refine ⟨ty_ok (by omega) (by omega), ty_take fun r a0 a1 => ih (es ++ [1 + r]) ?_ fun y hy => ?_⟩
        · rw [List.length_append, List.length_append, List.length_singleton]
          omega
        · rcases List.mem_append.mp hy with hy | hy
          · exact hn2 y hy
          · simp only [List.mem_singleton] at hy; omega
    exact key fs [] rfl (fun _ z => by cases z)
  · refine ty_inv27 (P := fun low : Int => 0 ≤ low) (fun k hk => ty_if (fun _ => ⟨by dsimp only; omega, fun _ _ => (show 0 < m by omega), ty_sub (hk _ (by omega))⟩) (fun _ => hk _ (Int.le_refl 0))) fun low hlow => ?_
    dsimp only
    have ok1 : ∀ i ∈ rg 0 (row.length : Int), ixOk fs i := fun i hi => by have := rg_mem.mp hi; exact ⟨by omega, by omega⟩
    have hpm := srtP_perm (List.map (fun (i : Int) => ((gi fs i), i)) (rg 0 (row.length : Int)))
    have hlen := hpm.length_eq
    rw [List.length_map, rg_len] at hlen
    have hsec : ∀ x ∈ srtP (List.map (fun (i : Int) => ((gi fs i), i)) (rg 0 (row.length : Int))), 0 ≤ x.2 ∧ x.2 < row.length := fun x hx => by
      obtain ⟨i, hi, rfl⟩ := List.mem_map.mp (hpm.mem_iff.mp hx)
      exact rg_mem.mp hi
    generalize srtP (List.map (fun (i : Int) => ((gi fs i), i)) (rg 0 (row.length : Int))) = late at *
    refine ⟨ty_b62n (by omega), by rw [rg_len]; omega, ok1, ⟨by rw [List.length_map, rg_len]; omega, fun x hx => ?_⟩, ty_sub ⟨hlow, hlow, ?_, ty_sub (ty_sub ⟨ty_b62n (by omega), ?_⟩)⟩⟩
    · obtain ⟨i, hi, rfl⟩ := List.mem_map.mp hx
      have := rg_mem.mp hi
      dsimp only
      omega
    · unfold slT slF
      rw [List.length_reverse, List.length_take, List.length_drop]
      omega
    have hl2 : (slT late low ++ (slF late low).reverse).length = row.length := by
      unfold slT slF
      rw [List.length_append, List.length_reverse, List.length_take, List.length_drop]
      omega
    have hs2 : ∀ x ∈ slT late low ++ (slF late low).reverse, 0 ≤ x.2 ∧ x.2 < row.length := fun x hx => by
      rcases List.mem_append.mp hx with hx | hx
      · exact hsec x (List.mem_of_mem_take hx)
      · exact hsec x (List.mem_of_mem_drop (List.mem_reverse.mp hx))
    generalize slT late low ++ (slF late low).reverse = late2 at *
    have hsp := srt_perm row
    have hsl := hsp.length_eq
    have hsr : ∀ x ∈ srt row, 1 ≤ x ∧ x ≤ m := fun x hx => r2 x (hsp.mem_iff.mp hx)
    generalize srt row = spots at *
    refine forK_ind (J := fun _ (k : List Int → Prop) => ∀ row2 : List Int, row2.length = fs.length → (∀ x ∈ row2, 1 ≤ x ∧ x ≤ m) → k row2) ?_ ?_ _ r1 r2
    · intro row2 e1 e2
      refine ty_take fun r a0 a1 => ⟨ty_b62 (by omega) (by omega), ?_⟩
      refine forK_ind (J := fun _ (k : List Int → Prop) => ∀ row3 : List Int, row3.length = fs.length → (∀ x ∈ row3, 1 ≤ x ∧ x ≤ m) → k row3) ?_ ?_ _ e1 e2
      · intro row3 g1 g2
        exact h row3 ⟨g1, g2⟩
      · intro pre x post k e hk row3 g1 g2
        have hq1 := p.q1
        have hqn := p.qn
        refine ⟨ty_ok (by omega) (by omega), ty_take fun i i0 i1 => ⟨ty_ok (by omega) (by omega), ty_take fun j j0 j1 => ?_⟩⟩
        have oi : ixOk row3 i := ⟨i0, i1⟩
        have oj : ixOk row3 j := ⟨j0, j1⟩
        refine ⟨oi, ty_sub ⟨oj, oi, ⟨j0, by rw [st_len]; exact j1⟩, hk _ (by rw [st_len, st_len, g1]) fun y hy => ?_⟩⟩
        rcases st_mem hy with hy | hy
        · rcases st_mem hy with hy | hy
          · exact g2 y hy
          · rw [hy]; exact g2 _ (gi_mem0 oj)
        · rw [hy]; exact g2 _ (gi_mem0 oi)
    · intro pre x post k e hk row2 e1 e2
      obtain ⟨hx, hxm, _⟩ := rg_split e
      have os : ixOk spots x := ⟨by omega, by omega⟩
      have ol : ixOk late2 x := ⟨by omega, by omega⟩
      have hv := hs2 _ (gi_mem0 ol)
      refine ⟨os, ol, ⟨hv.1, by omega⟩, hk _ (by rw [st_len, e1]) fun y hy => ?_⟩
      rcases st_mem hy with hy | hy
      · exact e2 y hy
      · rw [hy]; exact hsr _ (gi_mem0 os)
end
theorem law_t (script : List Int) : t_law script (fun b => b = true) (fun _ => False) := by
  unfold t_law
  have go : ∀ m q fs, PL m q fs → takeOk m ∧ takeT m (fun (r1 : Int) => bnd (1 + r1) (fun (z : Int) => takeT 14 (fun (j : Int) => jn (fun (k : Int → Prop) => takeT 4 (fun (r3 : Int) => ifP (r3 = 3) (divT m ∧ t__law_great (((1000000000000000000000000000000 - z) + 1) / m) (fun (j3 : Int) => k j3) (fun _ => False)) (k j))) (fun (j2 : Int) => mulT m j2 ∧ t__law_everybody (m, q, fs) (((m * j2) + z) - 1) (fun (wish : (List Int)) => t__law_fewest (m, q, fs) z wish (fun (fewest : Int) => t_DepotU_initU m q fs (fun (depot : Dp) => forK ([j2, fewest, (fewest - 1), j2] : List Int) (fun (many : Int) (k : Prop) => jn (fun (k : Bool → Prop) => ifP (0 ≤ many) (mulT m many ∧ t__law_twice (m, q, fs) depot (((m * many) + z) - 1) wish (fun (r2 : Bool) => k (!r2)) (fun _ => False)) (k false)) (fun (b_ : Bool) => ifP (b_ = true) (false = true) (k))) (true = true)) (fun _ => False)) (fun _ => False)) (fun _ => False))))) := fun m q fs p => by
    have hm := p.m1
    have hm8 := p.m8
    have mm : ∀ y, mulT m y := fun y => ty_mulL (by omega) (by omega)
    refine ⟨ty_ok (by omega) (by omega), ty_take fun r a0 a1 => ty_sub (ty_take fun j j0 j1 => ?_)⟩
    refine ty_inv27 (P := fun j2 : Int => 0 ≤ j2 ∧ m * j2 ≤ 1000000000000000000000000000000 - (1 + r) + 1) (fun k hk => ty_take fun r3 _ _ => ty_if (fun _ => ⟨ty_div (by omega) (by omega), ?_⟩) (fun _ => hk _ ?_)) fun j2 hj => ?_
    · have d0 : 0 ≤ (1000000000000000000000000000000 - (1 + r) + 1) / m := Int.ediv_nonneg (by omega) (by omega)
      have d1 : (1000000000000000000000000000000 - (1 + r) + 1) / m ≤ 1000000000000000000000000000000 - (1 + r) + 1 := Int.ediv_le_self _ (by omega)
      refine great_t d0 (by omega) fun j3 b0 b1 => hk _ ⟨b0, ?_⟩
      have e1 := Int.mul_le_mul_of_nonneg_left b1 (show 0 ≤ m by omega)
      have e2 := Int.mul_ediv_self_le (x := 1000000000000000000000000000000 - (1 + r) + 1) (k := m) (by omega)
      omega
    · have := Int.mul_le_mul hm8 (show j ≤ 13 by omega) j0 (by omega)
      exact ⟨j0, by omega⟩
    have n0 := Int.mul_nonneg (show 0 ≤ m by omega) hj.1
    refine ⟨mm _, every_t p (by omega) (by omega) fun W w => few_t p w fun f f0 f1 => dep_t p.good ?_⟩
    refine forK_all (P := fun _ => True) ?_ (fun _ => rfl)
    intro pre x post k e _ hk
    have hx : x ∈ ([j2, f, f - 1, j2] : List Int) := by rw [e]; simp
    have hb : 0 ≤ x → m * x ≤ 1000000000000000000000000000000 - (1 + r) + 1 := fun x0 => by
      simp only [List.mem_cons, List.not_mem_nil, or_false] at hx
      have far : x ≤ 13 → m * x ≤ 1000000000000000000000000000000 - (1 + r) + 1 := fun x1 => by
        have := Int.mul_le_mul hm8 x1 x0 (by omega)
        omega
      rcases hx with rfl | rfl | rfl | rfl
      · exact hj.2
      · exact far (by omega)
      · exact far (by omega)
      · exact hj.2
    refine ty_inv27 (P := fun b : Bool => b = false) (fun k2 hk2 => ty_if (fun x0 => ⟨mm _, ?_⟩) (fun _ => hk2 _ rfl)) ?_
    · have n1 := Int.mul_nonneg (show 0 ≤ m by omega) x0
      have n2 := hb x0
      exact twice_t p w (by omega) (by omega) (hk2 _ rfl)
    · rintro b rfl
      exact ty_ifF Bool.false_ne_true (hk trivial)
  refine depot_t (by omega) (by omega) (by omega) (by omega) fun m q fs p _ _ => ?_
  refine ty_jn (ty_take fun r4 _ _ => ty_if (fun _ => steep_t (by omega) (by omega) fun m q fs p _ => go m q fs p) (fun _ => go m q fs p))
theorem pure_law : ∀ ns : List Int, ns.length ≤ 63 → w_law [.script ns] (fun d => d = .bl true) (fun _ => False) := fun ns h =>
  tr_law h (law_t ns) (fun r hr => by rw [hr]) (fun _ z => z)
end Pu
set_option Elab.async false
set_option maxRecDepth 100000
set_option maxHeartbeats 2000000
set_option autoImplicit false
namespace Pu
open PySem PySem.Spec PyProof.Rows L2
theorem all_mk {P : Program} {w : World} {K : PySem.W.Frag} {h : Heap} {mg : Str → Option Value} {fa : Addr} (pure_law : ∀ ns : List Int, ns.length ≤ 63 → w_law [.script ns] (fun d => d = .bl true) (fun _ => False)) (X : K.In h) (G : h.Ns mainGlobals mg) (hfa : mg "law" = some (.ref fa))
    {aa1 aa2 aa3 aa4 aa5 aa6 aa7 aa8 aa9 aa10 aa11 aa12 aa13 aa14 aa15 aa16 aa17 aa18 aa19 aa20 aa21 aa22 aa23 aa24 aa25 aa26 aa27 aa28 aa29 aa30 aa31 aa32 aa33 aa34 aa35 aa36 aa37 aa38 aa39 aa40 aa41 aa42 aa43 aa44 aa45 A_Depot A_OutagainError A_OutOfRange A_BadDepot A_BadWish p_Depot_size p_Depot_places  : Addr} {oo1 kk1 cc1 pp1 ee1 tt1 oo2 kk2 cc2 pp2 ee2 tt2 oo3 kk3 cc3 pp3 ee3 tt3 oo4 kk4 cc4 pp4 ee4 tt4 oo5 kk5 cc5 pp5 ee5 tt5 oo6 kk6 cc6 pp6 ee6 tt6 oo7 kk7 cc7 pp7 ee7 tt7 oo8 kk8 cc8 pp8 ee8 tt8 oo9 kk9 cc9 pp9 ee9 tt9 oo10 kk10 cc10 pp10 ee10 tt10 oo11 kk11 cc11 pp11 ee11 tt11 oo12 kk12 cc12 pp12 ee12 tt12 oo13 kk13 cc13 pp13 ee13 tt13 oo14 kk14 cc14 pp14 ee14 tt14 oo15 kk15 cc15 pp15 ee15 tt15 oo16 kk16 cc16 pp16 ee16 tt16 oo17 kk17 cc17 pp17 ee17 tt17 oo18 kk18 cc18 pp18 ee18 tt18 oo19 kk19 cc19 pp19 ee19 tt19 oo20 kk20 cc20 pp20 ee20 tt20 oo21 kk21 cc21 pp21 ee21 tt21 oo22 kk22 cc22 pp22 ee22 tt22 oo23 kk23 cc23 pp23 ee23 tt23 oo24 kk24 cc24 pp24 ee24 tt24 oo25 kk25 cc25 pp25 ee25 tt25 oo26 kk26 cc26 pp26 ee26 tt26 oo27 kk27 cc27 pp27 ee27 tt27 oo28 kk28 cc28 pp28 ee28 tt28 oo29 kk29 cc29 pp29 ee29 tt29 oo30 kk30 cc30 pp30 ee30 tt30 oo31 kk31 cc31 pp31 ee31 tt31 oo32 kk32 cc32 pp32 ee32 tt32 oo33 kk33 cc33 pp33 ee33 tt33 oo34 kk34 cc34 pp34 ee34 tt34 oo35 kk35 cc35 pp35 ee35 tt35 oo36 kk36 cc36 pp36 ee36 tt36 oo37 kk37 cc37 pp37 ee37 tt37 oo38 kk38 cc38 pp38 ee38 tt38 oo39 kk39 cc39 pp39 ee39 tt39 oo40 kk40 cc40 pp40 ee40 tt40 oo41 kk41 cc41 pp41 ee41 tt41 oo42 kk42 cc42 pp42 ee42 tt42 oo43 kk43 cc43 pp43 ee43 tt43 oo44 kk44 cc44 pp44 ee44 tt44 oo45 kk45 cc45 pp45 ee45 tt45 : Value} {od__law_pool an__law_pool od__law_take an__law_take od__law_depot an__law_depot od__law_spots an__law_spots od__law_due_spots an__law_due_spots od__law_dealing an__law_dealing od__law_everybody an__law_everybody od__law_fewest an__law_fewest od_check_period_and_quota an_check_period_and_quota od_check_firsts an_check_firsts od_DepotU_initU an_DepotU_initU od__law_steep an__law_steep od__law_great an__law_great od__law_counted an__law_counted od_check_days an_check_days od_Depot_size an_Depot_size od_check_weekdays an_check_weekdays od_check_wish an_check_wish od_Depot_closings an_Depot_closings od_need_reasons an_need_reasons od_Depot_weekday an_Depot_weekday od_Depot_last_weekday an_Depot_last_weekday od_Depot_places an_Depot_places od_Depot_due_places an_Depot_due_places od_crowd_reasons an_crowd_reasons od_surplus an_surplus od_last_needs an_last_needs od_left_places an_left_places od_free_firsts an_free_firsts od_back_weekdays an_back_weekdays od_late_needs an_late_needs od_back_needs an_back_needs od_closing_needs an_closing_needs od_wish_reasons an_wish_reasons od_deal an_deal od_completed an_completed od_reach an_reach od__law_number an__law_number od__law_same an__law_same od__law_right an__law_right od__law_twice an__law_twice od_law an_law od_BadDepotU_initU an_BadDepotU_initU od_OutOfRangeU_initU an_OutOfRangeU_initU od_BadWishU_initU an_BadWishU_initU : Option Addr} {sl__law_pool sl__law_take sl__law_depot sl__law_spots sl__law_due_spots sl__law_dealing sl__law_everybody sl__law_fewest sl_check_period_and_quota sl_check_firsts sl_DepotU_initU sl__law_steep sl__law_great sl__law_counted sl_check_days sl_Depot_size sl_check_weekdays sl_check_wish sl_Depot_closings sl_need_reasons sl_Depot_weekday sl_Depot_last_weekday sl_Depot_places sl_Depot_due_places sl_crowd_reasons sl_surplus sl_last_needs sl_left_places sl_free_firsts sl_back_weekdays sl_late_needs sl_back_needs sl_closing_needs sl_wish_reasons sl_deal sl_completed sl_reach sl__law_number sl__law_same sl__law_right sl__law_twice sl_law sl_BadDepotU_initU sl_OutOfRangeU_initU sl_BadWishU_initU : Array (Option Value)} {rest_Depot_size rest_Depot_places : List Value} {nm_BadDepot q_BadDepot : Str} {N_BadDepot : Addr} {bs_BadDepot bm_BadDepot : List Value} {sn_BadDepot : List Str} {sub_BadDepot : List Value} {ab_BadDepot : Bool} {col_BadDepot : Option Bool} {dd_BadDepot : Option Addr} {k0_BadDepot k1_BadDepot k2_BadDepot k3_BadDepot k5_BadDepot : Option Value} {nm_OutOfRange q_OutOfRange : Str} {N_OutOfRange : Addr} {bs_OutOfRange bm_OutOfRange : List Value} {sn_OutOfRange : List Str} {sub_OutOfRange : List Value} {ab_OutOfRange : Bool} {col_OutOfRange : Option Bool} {dd_OutOfRange : Option Addr} {k0_OutOfRange k1_OutOfRange k2_OutOfRange k3_OutOfRange k5_OutOfRange : Option Value} {nm_BadWish q_BadWish : Str} {N_BadWish : Addr} {bs_BadWish bm_BadWish : List Value} {sn_BadWish : List Str} {sub_BadWish : List Value} {ab_BadWish : Bool} {col_BadWish : Option Bool} {dd_BadWish : Option Addr} {k0_BadWish k1_BadWish k2_BadWish k3_BadWish k5_BadWish : Option Value} {t_Depot_MOST_PERIOD : Tok} {t_Depot_MOST_DRIVERS : Tok} {t_MOST_QUOTA : Tok} {t_MOST_DAYS : Tok}
    (h_lk__law_pool : K.lookup aa1 = some ⟨oo1, od__law_pool, .func (PySem.W.fnOf "_law_pool" "_law_pool" (defArgs s__law_pool) (defBody s__law_pool) (defScope s__law_pool) .none kk1 cc1 pp1 an__law_pool ee1 tt1), sl__law_pool⟩)
    (h_co__law_pool : PySem.W.codeIn K ee1 "_law_pool" = true)
    (h_kp__law_pool : PySem.W.keepIn K (.ref aa1) = true)
    (h_ns__law_pool : PySem.W.nsIn K mainGlobals "_law_pool" = some (some (.ref aa1)))
    (h_lk__law_take : K.lookup aa2 = some ⟨oo2, od__law_take, .func (PySem.W.fnOf "_law_take" "_law_take" (defArgs s__law_take) (defBody s__law_take) (defScope s__law_take) .none kk2 cc2 pp2 an__law_take ee2 tt2), sl__law_take⟩)
    (h_co__law_take : PySem.W.codeIn K ee2 "_law_take" = true)
    (h_kp__law_take : PySem.W.keepIn K (.ref aa2) = true)
    (h_ns__law_take : PySem.W.nsIn K mainGlobals "_law_take" = some (some (.ref aa2)))
    (h_lk__law_depot : K.lookup aa3 = some ⟨oo3, od__law_depot, .func (PySem.W.fnOf "_law_depot" "_law_depot" (defArgs s__law_depot) (defBody s__law_depot) (defScope s__law_depot) .none kk3 cc3 pp3 an__law_depot ee3 tt3), sl__law_depot⟩)
    (h_co__law_depot : PySem.W.codeIn K ee3 "_law_depot" = true)
    (h_kp__law_depot : PySem.W.keepIn K (.ref aa3) = true)
    (h_ns__law_depot : PySem.W.nsIn K mainGlobals "_law_depot" = some (some (.ref aa3)))
    (h_lk__law_spots : K.lookup aa4 = some ⟨oo4, od__law_spots, .func (PySem.W.fnOf "_law_spots" "_law_spots" (defArgs s__law_spots) (defBody s__law_spots) (defScope s__law_spots) .none kk4 cc4 pp4 an__law_spots ee4 tt4), sl__law_spots⟩)
    (h_co__law_spots : PySem.W.codeIn K ee4 "_law_spots" = true)
    (h_kp__law_spots : PySem.W.keepIn K (.ref aa4) = true)
    (h_ns__law_spots : PySem.W.nsIn K mainGlobals "_law_spots" = some (some (.ref aa4)))
    (h_lk__law_due_spots : K.lookup aa5 = some ⟨oo5, od__law_due_spots, .func (PySem.W.fnOf "_law_due_spots" "_law_due_spots" (defArgs s__law_due_spots) (defBody s__law_due_spots) (defScope s__law_due_spots) .none kk5 cc5 pp5 an__law_due_spots ee5 tt5), sl__law_due_spots⟩)
    (h_co__law_due_spots : PySem.W.codeIn K ee5 "_law_due_spots" = true)
    (h_kp__law_due_spots : PySem.W.keepIn K (.ref aa5) = true)
    (h_ns__law_due_spots : PySem.W.nsIn K mainGlobals "_law_due_spots" = some (some (.ref aa5)))
    (h_lk__law_dealing : K.lookup aa6 = some ⟨oo6, od__law_dealing, .func (PySem.W.fnOf "_law_dealing" "_law_dealing" (defArgs s__law_dealing) (defBody s__law_dealing) (defScope s__law_dealing) .none kk6 cc6 pp6 an__law_dealing ee6 tt6), sl__law_dealing⟩)
    (h_co__law_dealing : PySem.W.codeIn K ee6 "_law_dealing" = true)
    (h_kp__law_dealing : PySem.W.keepIn K (.ref aa6) = true)
    (h_ns__law_dealing : PySem.W.nsIn K mainGlobals "_law_dealing" = some (some (.ref aa6)))
    (h_lk__law_everybody : K.lookup aa7 = some ⟨oo7, od__law_everybody, .func (PySem.W.fnOf "_law_everybody" "_law_everybody" (defArgs s__law_everybody) (defBody s__law_everybody) (defScope s__law_everybody) .none kk7 cc7 pp7 an__law_everybody ee7 tt7), sl__law_everybody⟩)
    (h_co__law_everybody : PySem.W.codeIn K ee7 "_law_everybody" = true)
    (h_kp__law_everybody : PySem.W.keepIn K (.ref aa7) = true)
    (h_ns__law_everybody : PySem.W.nsIn K mainGlobals "_law_everybody" = some (some (.ref aa7)))
    (h_lk__law_fewest : K.lookup aa8 = some ⟨oo8, od__law_fewest, .func (PySem.W.fnOf "_law_fewest" "_law_fewest" (defArgs s__law_fewest) (defBody s__law_fewest) (defScope s__law_fewest) .none kk8 cc8 pp8 an__law_fewest ee8 tt8), sl__law_fewest⟩)
    (h_co__law_fewest : PySem.W.codeIn K ee8 "_law_fewest" = true)
    (h_kp__law_fewest : PySem.W.keepIn K (.ref aa8) = true)
    (h_ns__law_fewest : PySem.W.nsIn K mainGlobals "_law_fewest" = some (some (.ref aa8)))
    (h_lk_check_period_and_quota : K.lookup aa9 = some ⟨oo9, od_check_period_and_quota, .func (PySem.W.fnOf "check_period_and_quota" "check_period_and_quota" (defArgs s_check_period_and_quota) (defBody s_check_period_and_quota) (defScope s_check_period_and_quota) .none kk9 cc9 pp9 an_check_period_and_quota ee9 tt9), sl_check_period_and_quota⟩)
    (h_co_check_period_and_quota : PySem.W.codeIn K ee9 "check_period_and_quota" = true)
    (h_kp_check_period_and_quota : PySem.W.keepIn K (.ref aa9) = true)
    (h_ns_check_period_and_quota : PySem.W.nsIn K mainGlobals "check_period_and_quota" = some (some (.ref aa9)))
    (h_lk_check_firsts : K.lookup aa10 = some ⟨oo10, od_check_firsts, .func (PySem.W.fnOf "check_firsts" "check_firsts" (defArgs s_check_firsts) (defBody s_check_firsts) (defScope s_check_firsts) .none kk10 cc10 pp10 an_check_firsts ee10 tt10), sl_check_firsts⟩)
    (h_co_check_firsts : PySem.W.codeIn K ee10 "check_firsts" = true)
    (h_kp_check_firsts : PySem.W.keepIn K (.ref aa10) = true)
    (h_ns_check_firsts : PySem.W.nsIn K mainGlobals "check_firsts" = some (some (.ref aa10)))
    (h_lk_DepotU_initU : K.lookup aa11 = some ⟨oo11, od_DepotU_initU, .func (PySem.W.fnOf "__init__" "Depot.__init__" (defArgs s_DepotU_initU) (defBody s_DepotU_initU) (defScope s_DepotU_initU) .none kk11 cc11 pp11 an_DepotU_initU ee11 tt11), sl_DepotU_initU⟩)
    (h_co_DepotU_initU : PySem.W.codeIn K ee11 "Depot.__init__" = true)
    (h_kp_DepotU_initU : PySem.W.keepIn K (.ref aa11) = true)
    (h_mk_Depot : PySem.W.makesIn K A_Depot = true)
    (h_ini_Depot : PySem.W.findIn K (.ref A_Depot) "__init__" = some (some (.ref aa11)))
    (h_fn_DepotU_initU : PySem.W.isFn K (.ref aa11) = true)
    (h_kc_Depot : PySem.W.keepIn K (.ref A_Depot) = true)
    (h_lk__law_steep : K.lookup aa12 = some ⟨oo12, od__law_steep, .func (PySem.W.fnOf "_law_steep" "_law_steep" (defArgs s__law_steep) (defBody s__law_steep) (defScope s__law_steep) .none kk12 cc12 pp12 an__law_steep ee12 tt12), sl__law_steep⟩)
    (h_co__law_steep : PySem.W.codeIn K ee12 "_law_steep" = true)
    (h_kp__law_steep : PySem.W.keepIn K (.ref aa12) = true)
    (h_ns__law_steep : PySem.W.nsIn K mainGlobals "_law_steep" = some (some (.ref aa12)))
    (h_lk__law_great : K.lookup aa13 = some ⟨oo13, od__law_great, .func (PySem.W.fnOf "_law_great" "_law_great" (defArgs s__law_great) (defBody s__law_great) (defScope s__law_great) .none kk13 cc13 pp13 an__law_great ee13 tt13), sl__law_great⟩)
    (h_co__law_great : PySem.W.codeIn K ee13 "_law_great" = true)
    (h_kp__law_great : PySem.W.keepIn K (.ref aa13) = true)
    (h_ns__law_great : PySem.W.nsIn K mainGlobals "_law_great" = some (some (.ref aa13)))
    (h_lk__law_counted : K.lookup aa14 = some ⟨oo14, od__law_counted, .func (PySem.W.fnOf "_law_counted" "_law_counted" (defArgs s__law_counted) (defBody s__law_counted) (defScope s__law_counted) .none kk14 cc14 pp14 an__law_counted ee14 tt14), sl__law_counted⟩)
    (h_co__law_counted : PySem.W.codeIn K ee14 "_law_counted" = true)
    (h_kp__law_counted : PySem.W.keepIn K (.ref aa14) = true)
    (h_ns__law_counted : PySem.W.nsIn K mainGlobals "_law_counted" = some (some (.ref aa14)))
    (h_lk_check_days : K.lookup aa15 = some ⟨oo15, od_check_days, .func (PySem.W.fnOf "check_days" "check_days" (defArgs s_check_days) (defBody s_check_days) (defScope s_check_days) .none kk15 cc15 pp15 an_check_days ee15 tt15), sl_check_days⟩)
    (h_co_check_days : PySem.W.codeIn K ee15 "check_days" = true)
    (h_kp_check_days : PySem.W.keepIn K (.ref aa15) = true)
    (h_ns_check_days : PySem.W.nsIn K mainGlobals "check_days" = some (some (.ref aa15)))
    (h_lk_Depot_size : K.lookup aa16 = some ⟨oo16, od_Depot_size, .func (PySem.W.fnOf "size" "Depot.size" (defArgs s_Depot_size) (defBody s_Depot_size) (defScope s_Depot_size) .none kk16 cc16 pp16 an_Depot_size ee16 tt16), sl_Depot_size⟩)
    (h_co_Depot_size : PySem.W.codeIn K ee16 "Depot.size" = true)
    (h_kp_Depot_size : PySem.W.keepIn K (.ref aa16) = true)
    (h_at_Depot_size : PySem.W.findIn K (.ref A_Depot) "size" = some (some (.ref p_Depot_size)))
    (h_get_Depot_size : PySem.W.specialIn K (.ref p_Depot_size) "__get__" = some (some (.builtin "property.__get__")))
    (h_tak_Depot_size : PySem.W.takesIn K (.ref p_Depot_size) = some true)
    (h_rec_Depot_size : PySem.W.recIn K p_Depot_size "property" = some (.ref aa16 :: rest_Depot_size))
    (h_lk_check_weekdays : K.lookup aa17 = some ⟨oo17, od_check_weekdays, .func (PySem.W.fnOf "check_weekdays" "check_weekdays" (defArgs s_check_weekdays) (defBody s_check_weekdays) (defScope s_check_weekdays) .none kk17 cc17 pp17 an_check_weekdays ee17 tt17), sl_check_weekdays⟩)
    (h_co_check_weekdays : PySem.W.codeIn K ee17 "check_weekdays" = true)
    (h_kp_check_weekdays : PySem.W.keepIn K (.ref aa17) = true)
    (h_ns_check_weekdays : PySem.W.nsIn K mainGlobals "check_weekdays" = some (some (.ref aa17)))
    (h_lk_check_wish : K.lookup aa18 = some ⟨oo18, od_check_wish, .func (PySem.W.fnOf "check_wish" "check_wish" (defArgs s_check_wish) (defBody s_check_wish) (defScope s_check_wish) .none kk18 cc18 pp18 an_check_wish ee18 tt18), sl_check_wish⟩)
    (h_co_check_wish : PySem.W.codeIn K ee18 "check_wish" = true)
    (h_kp_check_wish : PySem.W.keepIn K (.ref aa18) = true)
    (h_ns_check_wish : PySem.W.nsIn K mainGlobals "check_wish" = some (some (.ref aa18)))
    (h_lk_Depot_closings : K.lookup aa19 = some ⟨oo19, od_Depot_closings, .func (PySem.W.fnOf "closings" "Depot.closings" (defArgs s_Depot_closings) (defBody s_Depot_closings) (defScope s_Depot_closings) .none kk19 cc19 pp19 an_Depot_closings ee19 tt19), sl_Depot_closings⟩)
    (h_co_Depot_closings : PySem.W.codeIn K ee19 "Depot.closings" = true)
    (h_kp_Depot_closings : PySem.W.keepIn K (.ref aa19) = true)
    (h_at_Depot_closings : PySem.W.findIn K (.ref A_Depot) "closings" = some (some (.ref aa19)))
    (h_fn_Depot_closings : PySem.W.isFn K (.ref aa19) = true)
    (h_lk_need_reasons : K.lookup aa20 = some ⟨oo20, od_need_reasons, .func (PySem.W.fnOf "need_reasons" "need_reasons" (defArgs s_need_reasons) (defBody s_need_reasons) (defScope s_need_reasons) .none kk20 cc20 pp20 an_need_reasons ee20 tt20), sl_need_reasons⟩)
    (h_co_need_reasons : PySem.W.codeIn K ee20 "need_reasons" = true)
    (h_kp_need_reasons : PySem.W.keepIn K (.ref aa20) = true)
    (h_ns_need_reasons : PySem.W.nsIn K mainGlobals "need_reasons" = some (some (.ref aa20)))
    (h_lk_Depot_weekday : K.lookup aa21 = some ⟨oo21, od_Depot_weekday, .func (PySem.W.fnOf "weekday" "Depot.weekday" (defArgs s_Depot_weekday) (defBody s_Depot_weekday) (defScope s_Depot_weekday) .none kk21 cc21 pp21 an_Depot_weekday ee21 tt21), sl_Depot_weekday⟩)
    (h_co_Depot_weekday : PySem.W.codeIn K ee21 "Depot.weekday" = true)
    (h_kp_Depot_weekday : PySem.W.keepIn K (.ref aa21) = true)
    (h_at_Depot_weekday : PySem.W.findIn K (.ref A_Depot) "weekday" = some (some (.ref aa21)))
    (h_fn_Depot_weekday : PySem.W.isFn K (.ref aa21) = true)
    (h_lk_Depot_last_weekday : K.lookup aa22 = some ⟨oo22, od_Depot_last_weekday, .func (PySem.W.fnOf "last_weekday" "Depot.last_weekday" (defArgs s_Depot_last_weekday) (defBody s_Depot_last_weekday) (defScope s_Depot_last_weekday) .none kk22 cc22 pp22 an_Depot_last_weekday ee22 tt22), sl_Depot_last_weekday⟩)
    (h_co_Depot_last_weekday : PySem.W.codeIn K ee22 "Depot.last_weekday" = true)
    (h_kp_Depot_last_weekday : PySem.W.keepIn K (.ref aa22) = true)
    (h_at_Depot_last_weekday : PySem.W.findIn K (.ref A_Depot) "last_weekday" = some (some (.ref aa22)))
    (h_fn_Depot_last_weekday : PySem.W.isFn K (.ref aa22) = true)
    (h_lk_Depot_places : K.lookup aa23 = some ⟨oo23, od_Depot_places, .func (PySem.W.fnOf "places" "Depot.places" (defArgs s_Depot_places) (defBody s_Depot_places) (defScope s_Depot_places) .none kk23 cc23 pp23 an_Depot_places ee23 tt23), sl_Depot_places⟩)
    (h_co_Depot_places : PySem.W.codeIn K ee23 "Depot.places" = true)
    (h_kp_Depot_places : PySem.W.keepIn K (.ref aa23) = true)
    (h_at_Depot_places : PySem.W.findIn K (.ref A_Depot) "places" = some (some (.ref p_Depot_places)))
    (h_get_Depot_places : PySem.W.specialIn K (.ref p_Depot_places) "__get__" = some (some (.builtin "property.__get__")))
    (h_tak_Depot_places : PySem.W.takesIn K (.ref p_Depot_places) = some true)
    (h_rec_Depot_places : PySem.W.recIn K p_Depot_places "property" = some (.ref aa23 :: rest_Depot_places))
    (h_lk_Depot_due_places : K.lookup aa24 = some ⟨oo24, od_Depot_due_places, .func (PySem.W.fnOf "due_places" "Depot.due_places" (defArgs s_Depot_due_places) (defBody s_Depot_due_places) (defScope s_Depot_due_places) .none kk24 cc24 pp24 an_Depot_due_places ee24 tt24), sl_Depot_due_places⟩)
    (h_co_Depot_due_places : PySem.W.codeIn K ee24 "Depot.due_places" = true)
    (h_kp_Depot_due_places : PySem.W.keepIn K (.ref aa24) = true)
    (h_at_Depot_due_places : PySem.W.findIn K (.ref A_Depot) "due_places" = some (some (.ref aa24)))
    (h_fn_Depot_due_places : PySem.W.isFn K (.ref aa24) = true)
    (h_lk_crowd_reasons : K.lookup aa25 = some ⟨oo25, od_crowd_reasons, .func (PySem.W.fnOf "crowd_reasons" "crowd_reasons" (defArgs s_crowd_reasons) (defBody s_crowd_reasons) (defScope s_crowd_reasons) .none kk25 cc25 pp25 an_crowd_reasons ee25 tt25), sl_crowd_reasons⟩)
    (h_co_crowd_reasons : PySem.W.codeIn K ee25 "crowd_reasons" = true)
    (h_kp_crowd_reasons : PySem.W.keepIn K (.ref aa25) = true)
    (h_ns_crowd_reasons : PySem.W.nsIn K mainGlobals "crowd_reasons" = some (some (.ref aa25)))
    (h_lk_surplus : K.lookup aa26 = some ⟨oo26, od_surplus, .func (PySem.W.fnOf "surplus" "surplus" (defArgs s_surplus) (defBody s_surplus) (defScope s_surplus) .none kk26 cc26 pp26 an_surplus ee26 tt26), sl_surplus⟩)
    (h_co_surplus : PySem.W.codeIn K ee26 "surplus" = true)
    (h_kp_surplus : PySem.W.keepIn K (.ref aa26) = true)
    (h_ns_surplus : PySem.W.nsIn K mainGlobals "surplus" = some (some (.ref aa26)))
    (h_lk_last_needs : K.lookup aa27 = some ⟨oo27, od_last_needs, .func (PySem.W.fnOf "last_needs" "last_needs" (defArgs s_last_needs) (defBody s_last_needs) (defScope s_last_needs) .none kk27 cc27 pp27 an_last_needs ee27 tt27), sl_last_needs⟩)
    (h_co_last_needs : PySem.W.codeIn K ee27 "last_needs" = true)
    (h_kp_last_needs : PySem.W.keepIn K (.ref aa27) = true)
    (h_ns_last_needs : PySem.W.nsIn K mainGlobals "last_needs" = some (some (.ref aa27)))
    (h_lk_left_places : K.lookup aa28 = some ⟨oo28, od_left_places, .func (PySem.W.fnOf "left_places" "left_places" (defArgs s_left_places) (defBody s_left_places) (defScope s_left_places) .none kk28 cc28 pp28 an_left_places ee28 tt28), sl_left_places⟩)
    (h_co_left_places : PySem.W.codeIn K ee28 "left_places" = true)
    (h_kp_left_places : PySem.W.keepIn K (.ref aa28) = true)
    (h_ns_left_places : PySem.W.nsIn K mainGlobals "left_places" = some (some (.ref aa28)))
    (h_lk_free_firsts : K.lookup aa29 = some ⟨oo29, od_free_firsts, .func (PySem.W.fnOf "free_firsts" "free_firsts" (defArgs s_free_firsts) (defBody s_free_firsts) (defScope s_free_firsts) .none kk29 cc29 pp29 an_free_firsts ee29 tt29), sl_free_firsts⟩)
    (h_co_free_firsts : PySem.W.codeIn K ee29 "free_firsts" = true)
    (h_kp_free_firsts : PySem.W.keepIn K (.ref aa29) = true)
    (h_ns_free_firsts : PySem.W.nsIn K mainGlobals "free_firsts" = some (some (.ref aa29)))
    (h_lk_back_weekdays : K.lookup aa30 = some ⟨oo30, od_back_weekdays, .func (PySem.W.fnOf "back_weekdays" "back_weekdays" (defArgs s_back_weekdays) (defBody s_back_weekdays) (defScope s_back_weekdays) .none kk30 cc30 pp30 an_back_weekdays ee30 tt30), sl_back_weekdays⟩)
    (h_co_back_weekdays : PySem.W.codeIn K ee30 "back_weekdays" = true)
    (h_kp_back_weekdays : PySem.W.keepIn K (.ref aa30) = true)
    (h_ns_back_weekdays : PySem.W.nsIn K mainGlobals "back_weekdays" = some (some (.ref aa30)))
    (h_lk_late_needs : K.lookup aa31 = some ⟨oo31, od_late_needs, .func (PySem.W.fnOf "late_needs" "late_needs" (defArgs s_late_needs) (defBody s_late_needs) (defScope s_late_needs) .none kk31 cc31 pp31 an_late_needs ee31 tt31), sl_late_needs⟩)
    (h_co_late_needs : PySem.W.codeIn K ee31 "late_needs" = true)
    (h_kp_late_needs : PySem.W.keepIn K (.ref aa31) = true)
    (h_ns_late_needs : PySem.W.nsIn K mainGlobals "late_needs" = some (some (.ref aa31)))
    (h_lk_back_needs : K.lookup aa32 = some ⟨oo32, od_back_needs, .func (PySem.W.fnOf "back_needs" "back_needs" (defArgs s_back_needs) (defBody s_back_needs) (defScope s_back_needs) .none kk32 cc32 pp32 an_back_needs ee32 tt32), sl_back_needs⟩)
    (h_co_back_needs : PySem.W.codeIn K ee32 "back_needs" = true)
    (h_kp_back_needs : PySem.W.keepIn K (.ref aa32) = true)
    (h_ns_back_needs : PySem.W.nsIn K mainGlobals "back_needs" = some (some (.ref aa32)))
    (h_lk_closing_needs : K.lookup aa33 = some ⟨oo33, od_closing_needs, .func (PySem.W.fnOf "closing_needs" "closing_needs" (defArgs s_closing_needs) (defBody s_closing_needs) (defScope s_closing_needs) .none kk33 cc33 pp33 an_closing_needs ee33 tt33), sl_closing_needs⟩)
    (h_co_closing_needs : PySem.W.codeIn K ee33 "closing_needs" = true)
    (h_kp_closing_needs : PySem.W.keepIn K (.ref aa33) = true)
    (h_ns_closing_needs : PySem.W.nsIn K mainGlobals "closing_needs" = some (some (.ref aa33)))
    (h_lk_wish_reasons : K.lookup aa34 = some ⟨oo34, od_wish_reasons, .func (PySem.W.fnOf "wish_reasons" "wish_reasons" (defArgs s_wish_reasons) (defBody s_wish_reasons) (defScope s_wish_reasons) .none kk34 cc34 pp34 an_wish_reasons ee34 tt34), sl_wish_reasons⟩)
    (h_co_wish_reasons : PySem.W.codeIn K ee34 "wish_reasons" = true)
    (h_kp_wish_reasons : PySem.W.keepIn K (.ref aa34) = true)
    (h_ns_wish_reasons : PySem.W.nsIn K mainGlobals "wish_reasons" = some (some (.ref aa34)))
    (h_lk_deal : K.lookup aa35 = some ⟨oo35, od_deal, .func (PySem.W.fnOf "deal" "deal" (defArgs s_deal) (defBody s_deal) (defScope s_deal) .none kk35 cc35 pp35 an_deal ee35 tt35), sl_deal⟩)
    (h_co_deal : PySem.W.codeIn K ee35 "deal" = true)
    (h_kp_deal : PySem.W.keepIn K (.ref aa35) = true)
    (h_ns_deal : PySem.W.nsIn K mainGlobals "deal" = some (some (.ref aa35)))
    (h_lk_completed : K.lookup aa36 = some ⟨oo36, od_completed, .func (PySem.W.fnOf "completed" "completed" (defArgs s_completed) (defBody s_completed) (defScope s_completed) .none kk36 cc36 pp36 an_completed ee36 tt36), sl_completed⟩)
    (h_co_completed : PySem.W.codeIn K ee36 "completed" = true)
    (h_kp_completed : PySem.W.keepIn K (.ref aa36) = true)
    (h_ns_completed : PySem.W.nsIn K mainGlobals "completed" = some (some (.ref aa36)))
    (h_lk_reach : K.lookup aa37 = some ⟨oo37, od_reach, .func (PySem.W.fnOf "reach" "reach" (defArgs s_reach) (defBody s_reach) (defScope s_reach) .none kk37 cc37 pp37 an_reach ee37 tt37), sl_reach⟩)
    (h_co_reach : PySem.W.codeIn K ee37 "reach" = true)
    (h_kp_reach : PySem.W.keepIn K (.ref aa37) = true)
    (h_ns_reach : PySem.W.nsIn K mainGlobals "reach" = some (some (.ref aa37)))
    (h_lk__law_number : K.lookup aa38 = some ⟨oo38, od__law_number, .func (PySem.W.fnOf "_law_number" "_law_number" (defArgs s__law_number) (defBody s__law_number) (defScope s__law_number) .none kk38 cc38 pp38 an__law_number ee38 tt38), sl__law_number⟩)
    (h_co__law_number : PySem.W.codeIn K ee38 "_law_number" = true)
    (h_kp__law_number : PySem.W.keepIn K (.ref aa38) = true)
    (h_ns__law_number : PySem.W.nsIn K mainGlobals "_law_number" = some (some (.ref aa38)))
    (h_lk__law_same : K.lookup aa39 = some ⟨oo39, od__law_same, .func (PySem.W.fnOf "_law_same" "_law_same" (defArgs s__law_same) (defBody s__law_same) (defScope s__law_same) .none kk39 cc39 pp39 an__law_same ee39 tt39), sl__law_same⟩)
    (h_co__law_same : PySem.W.codeIn K ee39 "_law_same" = true)
    (h_kp__law_same : PySem.W.keepIn K (.ref aa39) = true)
    (h_ns__law_same : PySem.W.nsIn K mainGlobals "_law_same" = some (some (.ref aa39)))
    (h_lk__law_right : K.lookup aa40 = some ⟨oo40, od__law_right, .func (PySem.W.fnOf "_law_right" "_law_right" (defArgs s__law_right) (defBody s__law_right) (defScope s__law_right) .none kk40 cc40 pp40 an__law_right ee40 tt40), sl__law_right⟩)
    (h_co__law_right : PySem.W.codeIn K ee40 "_law_right" = true)
    (h_kp__law_right : PySem.W.keepIn K (.ref aa40) = true)
    (h_ns__law_right : PySem.W.nsIn K mainGlobals "_law_right" = some (some (.ref aa40)))
    (h_lk__law_twice : K.lookup aa41 = some ⟨oo41, od__law_twice, .func (PySem.W.fnOf "_law_twice" "_law_twice" (defArgs s__law_twice) (defBody s__law_twice) (defScope s__law_twice) .none kk41 cc41 pp41 an__law_twice ee41 tt41), sl__law_twice⟩)
    (h_co__law_twice : PySem.W.codeIn K ee41 "_law_twice" = true)
    (h_kp__law_twice : PySem.W.keepIn K (.ref aa41) = true)
    (h_ns__law_twice : PySem.W.nsIn K mainGlobals "_law_twice" = some (some (.ref aa41)))
    (h_lk_law : K.lookup aa42 = some ⟨oo42, od_law, .func (PySem.W.fnOf "law" "law" (defArgs s_law) (defBody s_law) (defScope s_law) .none kk42 cc42 pp42 an_law ee42 tt42), sl_law⟩)
    (h_co_law : PySem.W.codeIn K ee42 "law" = true)
    (h_kp_law : PySem.W.keepIn K (.ref aa42) = true)
    (h_ns_law : PySem.W.nsIn K mainGlobals "law" = some (some (.ref aa42)))
    (h_lk_BadDepotU_initU : K.lookup aa43 = some ⟨oo43, od_BadDepotU_initU, .func (PySem.W.fnOf "__init__" "BadDepot.__init__" (defArgs s_BadDepotU_initU) (defBody s_BadDepotU_initU) (defScope s_BadDepotU_initU) .none kk43 cc43 pp43 an_BadDepotU_initU ee43 tt43), sl_BadDepotU_initU⟩)
    (h_co_BadDepotU_initU : PySem.W.codeIn K ee43 "BadDepot.__init__" = true)
    (h_kp_BadDepotU_initU : PySem.W.keepIn K (.ref aa43) = true)
    (h_lk_OutOfRangeU_initU : K.lookup aa44 = some ⟨oo44, od_OutOfRangeU_initU, .func (PySem.W.fnOf "__init__" "OutOfRange.__init__" (defArgs s_OutOfRangeU_initU) (defBody s_OutOfRangeU_initU) (defScope s_OutOfRangeU_initU) .none kk44 cc44 pp44 an_OutOfRangeU_initU ee44 tt44), sl_OutOfRangeU_initU⟩)
    (h_co_OutOfRangeU_initU : PySem.W.codeIn K ee44 "OutOfRange.__init__" = true)
    (h_kp_OutOfRangeU_initU : PySem.W.keepIn K (.ref aa44) = true)
    (h_lk_BadWishU_initU : K.lookup aa45 = some ⟨oo45, od_BadWishU_initU, .func (PySem.W.fnOf "__init__" "BadWish.__init__" (defArgs s_BadWishU_initU) (defBody s_BadWishU_initU) (defScope s_BadWishU_initU) .none kk45 cc45 pp45 an_BadWishU_initU ee45 tt45), sl_BadWishU_initU⟩)
    (h_co_BadWishU_initU : PySem.W.codeIn K ee45 "BadWish.__init__" = true)
    (h_kp_BadWishU_initU : PySem.W.keepIn K (.ref aa45) = true)
    (h_ns_Depot : PySem.W.nsIn K mainGlobals "Depot" = some (some (.ref A_Depot)))
    (h_pg_Depot : PySem.W.plainGet K A_Depot Str.empty = true)
    (h_hd_Depot : PySem.W.hasDictIn K A_Depot = true)
    (h_po_Depot : PySem.W.plainOver K A_Depot = true)
    (h_sa_Depot : PySem.W.findIn K (.ref A_Depot) "__setattr__" = some (some (.builtin "object.__setattr__")))
    (h_no_Depot_period : PySem.W.findIn K (.ref A_Depot) "period" = some none)
    (h_no_Depot_quota : PySem.W.findIn K (.ref A_Depot) "quota" = some none)
    (h_no_Depot_firsts : PySem.W.findIn K (.ref A_Depot) "firsts" = some none)
    (h_ns_OutagainError : PySem.W.nsIn K mainGlobals "OutagainError" = some (some (.ref A_OutagainError)))
    (h_ns_OutOfRange : PySem.W.nsIn K mainGlobals "OutOfRange" = some (some (.ref A_OutOfRange)))
    (h_ns_BadDepot : PySem.W.nsIn K mainGlobals "BadDepot" = some (some (.ref A_BadDepot)))
    (h_ns_BadWish : PySem.W.nsIn K mainGlobals "BadWish" = some (some (.ref A_BadWish)))
    (h_xo_BadDepot : K.lookup A_BadDepot = some (excClassObj nm_BadDepot q_BadDepot A_BadDepot N_BadDepot bs_BadDepot bm_BadDepot true sn_BadDepot sub_BadDepot ab_BadDepot col_BadDepot dd_BadDepot k0_BadDepot k1_BadDepot k2_BadDepot k3_BadDepot k5_BadDepot "ValueError.__new__"))
    (h_ve_BadDepot : PySem.HandSPX.refsVE bm_BadDepot = true)
    (h_sa_BadDepot : PySem.W.findIn K (.ref A_BadDepot) "__setattr__" = some (some (.builtin "object.__setattr__")))
    (h_kc_BadDepot : PySem.W.keepIn K (.ref A_BadDepot) = true)
    (h_ini_BadDepot : PySem.W.findIn K (.ref A_BadDepot) "__init__" = some (some (.ref aa43)))
    (h_tf_BadDepot : PySem.W.typeIn K (.ref aa43) = some (.type "function"))
    (h_no_BadDepot_at : PySem.W.findIn K (.ref A_BadDepot) "at" = some none)
    (h_no_BadDepot_code : PySem.W.findIn K (.ref A_BadDepot) "code" = some none)
    (h_be_BadDepot : PySem.W.subIn K (.ref A_BadDepot) (.type "BaseException") = some true)
    (h_ty_BadDepot : PySem.W.typeIn K (.ref A_BadDepot) = some (.type "type"))
    (h_xo_OutOfRange : K.lookup A_OutOfRange = some (excClassObj nm_OutOfRange q_OutOfRange A_OutOfRange N_OutOfRange bs_OutOfRange bm_OutOfRange true sn_OutOfRange sub_OutOfRange ab_OutOfRange col_OutOfRange dd_OutOfRange k0_OutOfRange k1_OutOfRange k2_OutOfRange k3_OutOfRange k5_OutOfRange "ValueError.__new__"))
    (h_ve_OutOfRange : PySem.HandSPX.refsVE bm_OutOfRange = true)
    (h_sa_OutOfRange : PySem.W.findIn K (.ref A_OutOfRange) "__setattr__" = some (some (.builtin "object.__setattr__")))
    (h_kc_OutOfRange : PySem.W.keepIn K (.ref A_OutOfRange) = true)
    (h_ini_OutOfRange : PySem.W.findIn K (.ref A_OutOfRange) "__init__" = some (some (.ref aa44)))
    (h_tf_OutOfRange : PySem.W.typeIn K (.ref aa44) = some (.type "function"))
    (h_no_OutOfRange_at : PySem.W.findIn K (.ref A_OutOfRange) "at" = some none)
    (h_no_OutOfRange_code : PySem.W.findIn K (.ref A_OutOfRange) "code" = some none)
    (h_be_OutOfRange : PySem.W.subIn K (.ref A_OutOfRange) (.type "BaseException") = some true)
    (h_ty_OutOfRange : PySem.W.typeIn K (.ref A_OutOfRange) = some (.type "type"))
    (h_xo_BadWish : K.lookup A_BadWish = some (excClassObj nm_BadWish q_BadWish A_BadWish N_BadWish bs_BadWish bm_BadWish true sn_BadWish sub_BadWish ab_BadWish col_BadWish dd_BadWish k0_BadWish k1_BadWish k2_BadWish k3_BadWish k5_BadWish "ValueError.__new__"))
    (h_ve_BadWish : PySem.HandSPX.refsVE bm_BadWish = true)
    (h_sa_BadWish : PySem.W.findIn K (.ref A_BadWish) "__setattr__" = some (some (.builtin "object.__setattr__")))
    (h_kc_BadWish : PySem.W.keepIn K (.ref A_BadWish) = true)
    (h_ini_BadWish : PySem.W.findIn K (.ref A_BadWish) "__init__" = some (some (.ref aa45)))
    (h_tf_BadWish : PySem.W.typeIn K (.ref aa45) = some (.type "function"))
    (h_no_BadWish_at : PySem.W.findIn K (.ref A_BadWish) "at" = some none)
    (h_no_BadWish_code : PySem.W.findIn K (.ref A_BadWish) "code" = some none)
    (h_be_BadWish : PySem.W.subIn K (.ref A_BadWish) (.type "BaseException") = some true)
    (h_ty_BadWish : PySem.W.typeIn K (.ref A_BadWish) = some (.type "type"))
    (h_rd_Depot : PySem.W.readsIn K A_Depot (.type "type") = true)
    (h_sga_Depot : PySem.W.specialIn K (.ref A_Depot) "__getattribute__" = some (some (.builtin "type.__getattribute__")))
    (h_cv_Depot_MOST_PERIOD : PySem.W.findCls K (.ref A_Depot) (.type "type") "MOST_PERIOD" = some (.val (.int 8 t_Depot_MOST_PERIOD)))
    (h_cv_Depot_MOST_DRIVERS : PySem.W.findCls K (.ref A_Depot) (.type "type") "MOST_DRIVERS" = some (.val (.int 12 t_Depot_MOST_DRIVERS)))
    (h_g_MOST_QUOTA : PySem.W.nsIn K mainGlobals "MOST_QUOTA" = some (some (.int 12 t_MOST_QUOTA)))
    (h_g_MOST_DAYS : PySem.W.nsIn K mainGlobals "MOST_DAYS" = some (some (.int 1000000000000000000000000000000 t_MOST_DAYS)))
    (h_n_abs : PySem.W.nsIn K mainGlobals "abs" = some none)
    (h_n_bool : PySem.W.nsIn K mainGlobals "bool" = some none)
    (h_n_enumerate : PySem.W.nsIn K mainGlobals "enumerate" = some none)
    (h_n_int : PySem.W.nsIn K mainGlobals "int" = some none)
    (h_n_isinstance : PySem.W.nsIn K mainGlobals "isinstance" = some none)
    (h_n_len : PySem.W.nsIn K mainGlobals "len" = some none)
    (h_n_list : PySem.W.nsIn K mainGlobals "list" = some none)
    (h_n_max : PySem.W.nsIn K mainGlobals "max" = some none)
    (h_n_min : PySem.W.nsIn K mainGlobals "min" = some none)
    (h_n_range : PySem.W.nsIn K mainGlobals "range" = some none)
    (h_n_sorted : PySem.W.nsIn K mainGlobals "sorted" = some none)
    (h_n_str : PySem.W.nsIn K mainGlobals "str" = some none)
    (h_n_sum : PySem.W.nsIn K mainGlobals "sum" = some none)
    (h_n_tuple : PySem.W.nsIn K mainGlobals "tuple" = some none)
    (h_n_zip : PySem.W.nsIn K mainGlobals "zip" = some none)
    : ∃ fd : FuncData, (∀ (s : Shared) (v : Value), BindsTo s fd ⟨[v], []⟩ [("script", v)]) ∧ ∀ base : Heap, K.In base → base.Ns mainGlobals mg → FnOk P w K mg base (L2.CX P w) 11 fa fd ["script"] (spLaw K) := by
  have e := hfa.symm.trans (PySem.W.mg_of X G h_ns_law)
  cases e
  have M_Depot : mg (cname 0) = some (.ref A_Depot) := PySem.W.mg_of X G h_ns_Depot
  have C_Depot : Cls K A_Depot := ⟨h_pg_Depot, h_hd_Depot, h_po_Depot, h_sa_Depot⟩
  have M_OutagainError : mg (cname 20) = some (.ref A_OutagainError) := PySem.W.mg_of X G h_ns_OutagainError
  have M_OutOfRange : mg (cname 21) = some (.ref A_OutOfRange) := PySem.W.mg_of X G h_ns_OutOfRange
  have M_BadDepot : mg (cname 22) = some (.ref A_BadDepot) := PySem.W.mg_of X G h_ns_BadDepot
  have M_BadWish : mg (cname 27) = some (.ref A_BadWish) := PySem.W.mg_of X G h_ns_BadWish
  have T : Tx K mg _ _ _ _ _ _ _ _ _ _ _ _ _ _ _ _ _ _ _ _ _ _ _ _ _ _ _ _ _ _ _ _ _ _ _ _ _ _ _ _ _ _ _ _ _ _ _ _ _ _ _ _ _ _ _ _ _ _ _ _ _ _ _ _ _ _ _ _ _ _ _ _ _ _ _ _ _ _ _ _ _ _ _ _ _ _ _ _ _ _ _ _ _ _ _ _ _ := {
    F__law_pool := (fun_mk (st := s__law_pool) h_lk__law_pool h_co__law_pool h_kp__law_pool),
    B__law_pool := ((fun_mk (st := s__law_pool) h_lk__law_pool h_co__law_pool h_kp__law_pool).binds (ps := ["script"]) fun _ _ _ _ _ _ us hl => match us, hl with | [_], _ => rfl),
    G__law_pool := (PySem.W.mg_of X G h_ns__law_pool),
    K__law_pool := (h_kp__law_pool),
    F__law_take := (fun_mk (st := s__law_take) h_lk__law_take h_co__law_take h_kp__law_take),
    B__law_take := ((fun_mk (st := s__law_take) h_lk__law_take h_co__law_take h_kp__law_take).binds (ps := ["pool", "limit"]) fun _ _ _ _ _ _ us hl => match us, hl with | [_, _], _ => rfl),
    G__law_take := (PySem.W.mg_of X G h_ns__law_take),
    K__law_take := (h_kp__law_take),
    F__law_depot := (fun_mk (st := s__law_depot) h_lk__law_depot h_co__law_depot h_kp__law_depot),
    B__law_depot := ((fun_mk (st := s__law_depot) h_lk__law_depot h_co__law_depot h_kp__law_depot).binds (ps := ["pool", "drivers", "period"]) fun _ _ _ _ _ _ us hl => match us, hl with | [_, _, _], _ => rfl),
    G__law_depot := (PySem.W.mg_of X G h_ns__law_depot),
    K__law_depot := (h_kp__law_depot),
    F__law_spots := (fun_mk (st := s__law_spots) h_lk__law_spots h_co__law_spots h_kp__law_spots),
    B__law_spots := ((fun_mk (st := s__law_spots) h_lk__law_spots h_co__law_spots h_kp__law_spots).binds (ps := ["plan"]) fun _ _ _ _ _ _ us hl => match us, hl with | [_], _ => rfl),
    G__law_spots := (PySem.W.mg_of X G h_ns__law_spots),
    K__law_spots := (h_kp__law_spots),
    F__law_due_spots := (fun_mk (st := s__law_due_spots) h_lk__law_due_spots h_co__law_due_spots h_kp__law_due_spots),
    B__law_due_spots := ((fun_mk (st := s__law_due_spots) h_lk__law_due_spots h_co__law_due_spots h_kp__law_due_spots).binds (ps := ["plan", "span"]) fun _ _ _ _ _ _ us hl => match us, hl with | [_, _], _ => rfl),
    G__law_due_spots := (PySem.W.mg_of X G h_ns__law_due_spots),
    K__law_due_spots := (h_kp__law_due_spots),
    F__law_dealing := (fun_mk (st := s__law_dealing) h_lk__law_dealing h_co__law_dealing h_kp__law_dealing),
    B__law_dealing := ((fun_mk (st := s__law_dealing) h_lk__law_dealing h_co__law_dealing h_kp__law_dealing).binds (ps := ["pool", "plan", "span"]) fun _ _ _ _ _ _ us hl => match us, hl with | [_, _, _], _ => rfl),
    G__law_dealing := (PySem.W.mg_of X G h_ns__law_dealing),
    K__law_dealing := (h_kp__law_dealing),
    F__law_everybody := (fun_mk (st := s__law_everybody) h_lk__law_everybody h_co__law_everybody h_kp__law_everybody),
    B__law_everybody := ((fun_mk (st := s__law_everybody) h_lk__law_everybody h_co__law_everybody h_kp__law_everybody).binds (ps := ["pool", "plan", "span"]) fun _ _ _ _ _ _ us hl => match us, hl with | [_, _, _], _ => rfl),
    G__law_everybody := (PySem.W.mg_of X G h_ns__law_everybody),
    K__law_everybody := (h_kp__law_everybody),
    F__law_fewest := (fun_mk (st := s__law_fewest) h_lk__law_fewest h_co__law_fewest h_kp__law_fewest),
    B__law_fewest := ((fun_mk (st := s__law_fewest) h_lk__law_fewest h_co__law_fewest h_kp__law_fewest).binds (ps := ["plan", "z", "wish"]) fun _ _ _ _ _ _ us hl => match us, hl with | [_, _, _], _ => rfl),
    G__law_fewest := (PySem.W.mg_of X G h_ns__law_fewest),
    K__law_fewest := (h_kp__law_fewest),
    F_check_period_and_quota := (fun_mk (st := s_check_period_and_quota) h_lk_check_period_and_quota h_co_check_period_and_quota h_kp_check_period_and_quota),
    B_check_period_and_quota := ((fun_mk (st := s_check_period_and_quota) h_lk_check_period_and_quota h_co_check_period_and_quota h_kp_check_period_and_quota).binds (ps := ["period", "quota"]) fun _ _ _ _ _ _ us hl => match us, hl with | [_, _], _ => rfl),
    G_check_period_and_quota := (PySem.W.mg_of X G h_ns_check_period_and_quota),
    K_check_period_and_quota := (h_kp_check_period_and_quota),
    F_check_firsts := (fun_mk (st := s_check_firsts) h_lk_check_firsts h_co_check_firsts h_kp_check_firsts),
    B_check_firsts := ((fun_mk (st := s_check_firsts) h_lk_check_firsts h_co_check_firsts h_kp_check_firsts).binds (ps := ["period", "quota", "firsts"]) fun _ _ _ _ _ _ us hl => match us, hl with | [_, _, _], _ => rfl),
    G_check_firsts := (PySem.W.mg_of X G h_ns_check_firsts),
    K_check_firsts := (h_kp_check_firsts),
    F_DepotU_initU := (fun_mk (st := s_DepotU_initU) h_lk_DepotU_initU h_co_DepotU_initU h_kp_DepotU_initU),
    B_DepotU_initU := ((fun_mk (st := s_DepotU_initU) h_lk_DepotU_initU h_co_DepotU_initU h_kp_DepotU_initU).binds (ps := ["self", "period", "quota", "firsts"]) fun _ _ _ _ _ _ us hl => match us, hl with | [_, _, _, _], _ => rfl),
    mk_Depot := (⟨h_mk_Depot, h_ini_Depot, h_fn_DepotU_initU, h_kc_Depot⟩),
    F__law_steep := (fun_mk (st := s__law_steep) h_lk__law_steep h_co__law_steep h_kp__law_steep),
    B__law_steep := ((fun_mk (st := s__law_steep) h_lk__law_steep h_co__law_steep h_kp__law_steep).binds (ps := ["pool", "period"]) fun _ _ _ _ _ _ us hl => match us, hl with | [_, _], _ => rfl),
    G__law_steep := (PySem.W.mg_of X G h_ns__law_steep),
    K__law_steep := (h_kp__law_steep),
    F__law_great := (fun_mk (st := s__law_great) h_lk__law_great h_co__law_great h_kp__law_great),
    B__law_great := ((fun_mk (st := s__law_great) h_lk__law_great h_co__law_great h_kp__law_great).binds (ps := ["pool", "most"]) fun _ _ _ _ _ _ us hl => match us, hl with | [_, _], _ => rfl),
    G__law_great := (PySem.W.mg_of X G h_ns__law_great),
    K__law_great := (h_kp__law_great),
    F__law_counted := (fun_mk (st := s__law_counted) h_lk__law_counted h_co__law_counted h_kp__law_counted),
    B__law_counted := ((fun_mk (st := s__law_counted) h_lk__law_counted h_co__law_counted h_kp__law_counted).binds (ps := ["plan", "span", "wish"]) fun _ _ _ _ _ _ us hl => match us, hl with | [_, _, _], _ => rfl),
    G__law_counted := (PySem.W.mg_of X G h_ns__law_counted),
    K__law_counted := (h_kp__law_counted),
    F_check_days := (fun_mk (st := s_check_days) h_lk_check_days h_co_check_days h_kp_check_days),
    B_check_days := ((fun_mk (st := s_check_days) h_lk_check_days h_co_check_days h_kp_check_days).binds (ps := ["days"]) fun _ _ _ _ _ _ us hl => match us, hl with | [_], _ => rfl),
    G_check_days := (PySem.W.mg_of X G h_ns_check_days),
    K_check_days := (h_kp_check_days),
    F_Depot_size := (fun_mk (st := s_Depot_size) h_lk_Depot_size h_co_Depot_size h_kp_Depot_size),
    B_Depot_size := ((fun_mk (st := s_Depot_size) h_lk_Depot_size h_co_Depot_size h_kp_Depot_size).binds (ps := ["self"]) fun _ _ _ _ _ _ us hl => match us, hl with | [_], _ => rfl),
    pr_Depot_size := (⟨M_Depot, C_Depot, ⟨h_at_Depot_size, h_get_Depot_size, h_tak_Depot_size, ⟨_, h_rec_Depot_size⟩⟩⟩),
    F_check_weekdays := (fun_mk (st := s_check_weekdays) h_lk_check_weekdays h_co_check_weekdays h_kp_check_weekdays),
    B_check_weekdays := ((fun_mk (st := s_check_weekdays) h_lk_check_weekdays h_co_check_weekdays h_kp_check_weekdays).binds (ps := ["depot", "row", "least"]) fun _ _ _ _ _ _ us hl => match us, hl with | [_, _, _], _ => rfl),
    G_check_weekdays := (PySem.W.mg_of X G h_ns_check_weekdays),
    K_check_weekdays := (h_kp_check_weekdays),
    F_check_wish := (fun_mk (st := s_check_wish) h_lk_check_wish h_co_check_wish h_kp_check_wish),
    B_check_wish := ((fun_mk (st := s_check_wish) h_lk_check_wish h_co_check_wish h_kp_check_wish).binds (ps := ["depot", "wish"]) fun _ _ _ _ _ _ us hl => match us, hl with | [_, _], _ => rfl),
    G_check_wish := (PySem.W.mg_of X G h_ns_check_wish),
    K_check_wish := (h_kp_check_wish),
    F_Depot_closings := (fun_mk (st := s_Depot_closings) h_lk_Depot_closings h_co_Depot_closings h_kp_Depot_closings),
    B_Depot_closings := ((fun_mk (st := s_Depot_closings) h_lk_Depot_closings h_co_Depot_closings h_kp_Depot_closings).binds (ps := ["self", "days"]) fun _ _ _ _ _ _ us hl => match us, hl with | [_, _], _ => rfl),
    me_Depot_closings := (⟨M_Depot, C_Depot, ⟨h_at_Depot_closings, h_fn_Depot_closings, h_kp_Depot_closings⟩, by decide⟩),
    F_need_reasons := (fun_mk (st := s_need_reasons) h_lk_need_reasons h_co_need_reasons h_kp_need_reasons),
    B_need_reasons := ((fun_mk (st := s_need_reasons) h_lk_need_reasons h_co_need_reasons h_kp_need_reasons).binds (ps := ["word", "needs", "carried"]) fun _ _ _ _ _ _ us hl => match us, hl with | [_, _, _], _ => rfl),
    G_need_reasons := (PySem.W.mg_of X G h_ns_need_reasons),
    K_need_reasons := (h_kp_need_reasons),
    F_Depot_weekday := (fun_mk (st := s_Depot_weekday) h_lk_Depot_weekday h_co_Depot_weekday h_kp_Depot_weekday),
    B_Depot_weekday := ((fun_mk (st := s_Depot_weekday) h_lk_Depot_weekday h_co_Depot_weekday h_kp_Depot_weekday).binds (ps := ["self", "morning"]) fun _ _ _ _ _ _ us hl => match us, hl with | [_, _], _ => rfl),
    me_Depot_weekday := (⟨M_Depot, C_Depot, ⟨h_at_Depot_weekday, h_fn_Depot_weekday, h_kp_Depot_weekday⟩, by decide⟩),
    F_Depot_last_weekday := (fun_mk (st := s_Depot_last_weekday) h_lk_Depot_last_weekday h_co_Depot_last_weekday h_kp_Depot_last_weekday),
    B_Depot_last_weekday := ((fun_mk (st := s_Depot_last_weekday) h_lk_Depot_last_weekday h_co_Depot_last_weekday h_kp_Depot_last_weekday).binds (ps := ["self", "days"]) fun _ _ _ _ _ _ us hl => match us, hl with | [_, _], _ => rfl),
    me_Depot_last_weekday := (⟨M_Depot, C_Depot, ⟨h_at_Depot_last_weekday, h_fn_Depot_last_weekday, h_kp_Depot_last_weekday⟩, by decide⟩),
    F_Depot_places := (fun_mk (st := s_Depot_places) h_lk_Depot_places h_co_Depot_places h_kp_Depot_places),
    B_Depot_places := ((fun_mk (st := s_Depot_places) h_lk_Depot_places h_co_Depot_places h_kp_Depot_places).binds (ps := ["self"]) fun _ _ _ _ _ _ us hl => match us, hl with | [_], _ => rfl),
    pr_Depot_places := (⟨M_Depot, C_Depot, ⟨h_at_Depot_places, h_get_Depot_places, h_tak_Depot_places, ⟨_, h_rec_Depot_places⟩⟩⟩),
    F_Depot_due_places := (fun_mk (st := s_Depot_due_places) h_lk_Depot_due_places h_co_Depot_due_places h_kp_Depot_due_places),
    B_Depot_due_places := ((fun_mk (st := s_Depot_due_places) h_lk_Depot_due_places h_co_Depot_due_places h_kp_Depot_due_places).binds (ps := ["self", "days"]) fun _ _ _ _ _ _ us hl => match us, hl with | [_, _], _ => rfl),
    me_Depot_due_places := (⟨M_Depot, C_Depot, ⟨h_at_Depot_due_places, h_fn_Depot_due_places, h_kp_Depot_due_places⟩, by decide⟩),
    F_crowd_reasons := (fun_mk (st := s_crowd_reasons) h_lk_crowd_reasons h_co_crowd_reasons h_kp_crowd_reasons),
    B_crowd_reasons := ((fun_mk (st := s_crowd_reasons) h_lk_crowd_reasons h_co_crowd_reasons h_kp_crowd_reasons).binds (ps := ["depot", "days", "weekdays"]) fun _ _ _ _ _ _ us hl => match us, hl with | [_, _, _], _ => rfl),
    G_crowd_reasons := (PySem.W.mg_of X G h_ns_crowd_reasons),
    K_crowd_reasons := (h_kp_crowd_reasons),
    F_surplus := (fun_mk (st := s_surplus) h_lk_surplus h_co_surplus h_kp_surplus),
    B_surplus := ((fun_mk (st := s_surplus) h_lk_surplus h_co_surplus h_kp_surplus).binds (ps := ["places", "firsts", "low", "high"]) fun _ _ _ _ _ _ us hl => match us, hl with | [_, _, _, _], _ => rfl),
    G_surplus := (PySem.W.mg_of X G h_ns_surplus),
    K_surplus := (h_kp_surplus),
    F_last_needs := (fun_mk (st := s_last_needs) h_lk_last_needs h_co_last_needs h_kp_last_needs),
    B_last_needs := ((fun_mk (st := s_last_needs) h_lk_last_needs h_co_last_needs h_kp_last_needs).binds (ps := ["places", "firsts", "last", "told"]) fun _ _ _ _ _ _ us hl => match us, hl with | [_, _, _, _], _ => rfl),
    G_last_needs := (PySem.W.mg_of X G h_ns_last_needs),
    K_last_needs := (h_kp_last_needs),
    F_left_places := (fun_mk (st := s_left_places) h_lk_left_places h_co_left_places h_kp_left_places),
    B_left_places := ((fun_mk (st := s_left_places) h_lk_left_places h_co_left_places h_kp_left_places).binds (ps := ["depot", "days", "weekdays"]) fun _ _ _ _ _ _ us hl => match us, hl with | [_, _, _], _ => rfl),
    G_left_places := (PySem.W.mg_of X G h_ns_left_places),
    K_left_places := (h_kp_left_places),
    F_free_firsts := (fun_mk (st := s_free_firsts) h_lk_free_firsts h_co_free_firsts h_kp_free_firsts),
    B_free_firsts := ((fun_mk (st := s_free_firsts) h_lk_free_firsts h_co_free_firsts h_kp_free_firsts).binds (ps := ["depot", "wish"]) fun _ _ _ _ _ _ us hl => match us, hl with | [_, _], _ => rfl),
    G_free_firsts := (PySem.W.mg_of X G h_ns_free_firsts),
    K_free_firsts := (h_kp_free_firsts),
    F_back_weekdays := (fun_mk (st := s_back_weekdays) h_lk_back_weekdays h_co_back_weekdays h_kp_back_weekdays),
    B_back_weekdays := ((fun_mk (st := s_back_weekdays) h_lk_back_weekdays h_co_back_weekdays h_kp_back_weekdays).binds (ps := ["depot", "wish"]) fun _ _ _ _ _ _ us hl => match us, hl with | [_, _], _ => rfl),
    G_back_weekdays := (PySem.W.mg_of X G h_ns_back_weekdays),
    K_back_weekdays := (h_kp_back_weekdays),
    F_late_needs := (fun_mk (st := s_late_needs) h_lk_late_needs h_co_late_needs h_kp_late_needs),
    B_late_needs := ((fun_mk (st := s_late_needs) h_lk_late_needs h_co_late_needs h_kp_late_needs).binds (ps := ["depot", "days", "wish"]) fun _ _ _ _ _ _ us hl => match us, hl with | [_, _, _], _ => rfl),
    G_late_needs := (PySem.W.mg_of X G h_ns_late_needs),
    K_late_needs := (h_kp_late_needs),
    F_back_needs := (fun_mk (st := s_back_needs) h_lk_back_needs h_co_back_needs h_kp_back_needs),
    B_back_needs := ((fun_mk (st := s_back_needs) h_lk_back_needs h_co_back_needs h_kp_back_needs).binds (ps := ["places", "firsts", "told"]) fun _ _ _ _ _ _ us hl => match us, hl with | [_, _, _], _ => rfl),
    G_back_needs := (PySem.W.mg_of X G h_ns_back_needs),
    K_back_needs := (h_kp_back_needs),
    F_closing_needs := (fun_mk (st := s_closing_needs) h_lk_closing_needs h_co_closing_needs h_kp_closing_needs),
    B_closing_needs := ((fun_mk (st := s_closing_needs) h_lk_closing_needs h_co_closing_needs h_kp_closing_needs).binds (ps := ["depot", "days", "wish"]) fun _ _ _ _ _ _ us hl => match us, hl with | [_, _, _], _ => rfl),
    G_closing_needs := (PySem.W.mg_of X G h_ns_closing_needs),
    K_closing_needs := (h_kp_closing_needs),
    F_wish_reasons := (fun_mk (st := s_wish_reasons) h_lk_wish_reasons h_co_wish_reasons h_kp_wish_reasons),
    B_wish_reasons := ((fun_mk (st := s_wish_reasons) h_lk_wish_reasons h_co_wish_reasons h_kp_wish_reasons).binds (ps := ["depot", "days", "wish"]) fun _ _ _ _ _ _ us hl => match us, hl with | [_, _, _], _ => rfl),
    G_wish_reasons := (PySem.W.mg_of X G h_ns_wish_reasons),
    K_wish_reasons := (h_kp_wish_reasons),
    F_deal := (fun_mk (st := s_deal) h_lk_deal h_co_deal h_kp_deal),
    B_deal := ((fun_mk (st := s_deal) h_lk_deal h_co_deal h_kp_deal).binds (ps := ["places", "firsts"]) fun _ _ _ _ _ _ us hl => match us, hl with | [_, _], _ => rfl),
    G_deal := (PySem.W.mg_of X G h_ns_deal),
    K_deal := (h_kp_deal),
    F_completed := (fun_mk (st := s_completed) h_lk_completed h_co_completed h_kp_completed),
    B_completed := ((fun_mk (st := s_completed) h_lk_completed h_co_completed h_kp_completed).binds (ps := ["depot", "days", "wish"]) fun _ _ _ _ _ _ us hl => match us, hl with | [_, _, _], _ => rfl),
    G_completed := (PySem.W.mg_of X G h_ns_completed),
    K_completed := (h_kp_completed),
    F_reach := (fun_mk (st := s_reach) h_lk_reach h_co_reach h_kp_reach),
    B_reach := ((fun_mk (st := s_reach) h_lk_reach h_co_reach h_kp_reach).binds (ps := ["depot", "days", "wish"]) fun _ _ _ _ _ _ us hl => match us, hl with | [_, _, _], _ => rfl),
    G_reach := (PySem.W.mg_of X G h_ns_reach),
    K_reach := (h_kp_reach),
    F__law_number := (fun_mk (st := s__law_number) h_lk__law_number h_co__law_number h_kp__law_number),
    B__law_number := ((fun_mk (st := s__law_number) h_lk__law_number h_co__law_number h_kp__law_number).binds (ps := ["got"]) fun _ _ _ _ _ _ us hl => match us, hl with | [_], _ => rfl),
    G__law_number := (PySem.W.mg_of X G h_ns__law_number),
    K__law_number := (h_kp__law_number),
    F__law_same := (fun_mk (st := s__law_same) h_lk__law_same h_co__law_same h_kp__law_same),
    B__law_same := ((fun_mk (st := s__law_same) h_lk__law_same h_co__law_same h_kp__law_same).binds (ps := ["got", "due"]) fun _ _ _ _ _ _ us hl => match us, hl with | [_, _], _ => rfl),
    G__law_same := (PySem.W.mg_of X G h_ns__law_same),
    K__law_same := (h_kp__law_same),
    F__law_right := (fun_mk (st := s__law_right) h_lk__law_right h_co__law_right h_kp__law_right),
    B__law_right := ((fun_mk (st := s__law_right) h_lk__law_right h_co__law_right h_kp__law_right).binds (ps := ["got", "due", "z", "m"]) fun _ _ _ _ _ _ us hl => match us, hl with | [_, _, _, _], _ => rfl),
    G__law_right := (PySem.W.mg_of X G h_ns__law_right),
    K__law_right := (h_kp__law_right),
    F__law_twice := (fun_mk (st := s__law_twice) h_lk__law_twice h_co__law_twice h_kp__law_twice),
    B__law_twice := ((fun_mk (st := s__law_twice) h_lk__law_twice h_co__law_twice h_kp__law_twice).binds (ps := ["plan", "depot", "span", "wish"]) fun _ _ _ _ _ _ us hl => match us, hl with | [_, _, _, _], _ => rfl),
    G__law_twice := (PySem.W.mg_of X G h_ns__law_twice),
    K__law_twice := (h_kp__law_twice),
    F_law := (fun_mk (st := s_law) h_lk_law h_co_law h_kp_law),
    F_BadDepotU_initU := (fun_mk (st := s_BadDepotU_initU) h_lk_BadDepotU_initU h_co_BadDepotU_initU h_kp_BadDepotU_initU),
    B_BadDepotU_initU := ((fun_mk (st := s_BadDepotU_initU) h_lk_BadDepotU_initU h_co_BadDepotU_initU h_kp_BadDepotU_initU).binds (ps := ["self", "at", "code"]) fun _ _ _ _ _ _ us hl => match us, hl with | [_, _, _], _ => rfl),
    F_OutOfRangeU_initU := (fun_mk (st := s_OutOfRangeU_initU) h_lk_OutOfRangeU_initU h_co_OutOfRangeU_initU h_kp_OutOfRangeU_initU),
    B_OutOfRangeU_initU := ((fun_mk (st := s_OutOfRangeU_initU) h_lk_OutOfRangeU_initU h_co_OutOfRangeU_initU h_kp_OutOfRangeU_initU).binds (ps := ["self", "at", "code"]) fun _ _ _ _ _ _ us hl => match us, hl with | [_, _, _], _ => rfl),
    F_BadWishU_initU := (fun_mk (st := s_BadWishU_initU) h_lk_BadWishU_initU h_co_BadWishU_initU h_kp_BadWishU_initU),
    B_BadWishU_initU := ((fun_mk (st := s_BadWishU_initU) h_lk_BadWishU_initU h_co_BadWishU_initU h_kp_BadWishU_initU).binds (ps := ["self", "at", "code"]) fun _ _ _ _ _ _ us hl => match us, hl with | [_, _, _], _ => rfl),
    m_Depot := (M_Depot),
    fa_Depot_period := (at1 M_Depot ⟨C_Depot, h_no_Depot_period⟩),
    fa_Depot_quota := (at1 M_Depot ⟨C_Depot, h_no_Depot_quota⟩),
    fa_Depot_firsts := (at1 M_Depot ⟨C_Depot, h_no_Depot_firsts⟩),
    m_OutagainError := (M_OutagainError),
    m_OutOfRange := (M_OutOfRange),
    m_BadDepot := (M_BadDepot),
    m_BadWish := (M_BadWish),
    ex_BadDepot := (⟨M_BadDepot, ⟨⟨_, _, _, _, _, _, _, _, _, _, _, _, _, _, _, h_xo_BadDepot, h_ve_BadDepot⟩, h_sa_BadDepot, h_be_BadDepot, h_ty_BadDepot, h_kc_BadDepot⟩, h_ini_BadDepot, h_tf_BadDepot, fun f hf => by
        have hf' : f ∈ (["at", "code"] : List Str) := hf
        simp only [List.mem_cons, List.not_mem_nil, or_false] at hf'
        rcases hf' with rfl | rfl
        · exact h_no_BadDepot_at
        · exact h_no_BadDepot_code⟩),
    ex_OutOfRange := (⟨M_OutOfRange, ⟨⟨_, _, _, _, _, _, _, _, _, _, _, _, _, _, _, h_xo_OutOfRange, h_ve_OutOfRange⟩, h_sa_OutOfRange, h_be_OutOfRange, h_ty_OutOfRange, h_kc_OutOfRange⟩, h_ini_OutOfRange, h_tf_OutOfRange, fun f hf => by
        have hf' : f ∈ (["at", "code"] : List Str) := hf
        simp only [List.mem_cons, List.not_mem_nil, or_false] at hf'
        rcases hf' with rfl | rfl
        · exact h_no_OutOfRange_at
        · exact h_no_OutOfRange_code⟩),
    ex_BadWish := (⟨M_BadWish, ⟨⟨_, _, _, _, _, _, _, _, _, _, _, _, _, _, _, h_xo_BadWish, h_ve_BadWish⟩, h_sa_BadWish, h_be_BadWish, h_ty_BadWish, h_kc_BadWish⟩, h_ini_BadWish, h_tf_BadWish, fun f hf => by
        have hf' : f ∈ (["at", "code"] : List Str) := hf
        simp only [List.mem_cons, List.not_mem_nil, or_false] at hf'
        rcases hf' with rfl | rfl
        · exact h_no_BadWish_at
        · exact h_no_BadWish_code⟩),
    fld_firsts := (fun c j h => by
        have hm := lookup_mem h
        simp only [List.mem_cons, Prod.mk.injEq, List.not_mem_nil, or_false] at hm
        rcases hm with ⟨rfl, rfl⟩
        · exact ⟨by decide, rfl, at1 M_Depot ⟨C_Depot, h_no_Depot_firsts⟩⟩),
    fld_period := (fun c j h => by
        have hm := lookup_mem h
        simp only [List.mem_cons, Prod.mk.injEq, List.not_mem_nil, or_false] at hm
        rcases hm with ⟨rfl, rfl⟩
        · exact ⟨by decide, rfl, at1 M_Depot ⟨C_Depot, h_no_Depot_period⟩⟩),
    fld_quota := (fun c j h => by
        have hm := lookup_mem h
        simp only [List.mem_cons, Prod.mk.injEq, List.not_mem_nil, or_false] at hm
        rcases hm with ⟨rfl, rfl⟩
        · exact ⟨by decide, rfl, at1 M_Depot ⟨C_Depot, h_no_Depot_quota⟩⟩),
    cv_Depot_MOST_PERIOD := (⟨M_Depot, ⟨.type "type", .int 8 t_Depot_MOST_PERIOD, ⟨h_rd_Depot, h_sga_Depot⟩, ⟨h_cv_Depot_MOST_PERIOD, ⟨_, rfl⟩⟩⟩⟩),
    cv_Depot_MOST_DRIVERS := (⟨M_Depot, ⟨.type "type", .int 12 t_Depot_MOST_DRIVERS, ⟨h_rd_Depot, h_sga_Depot⟩, ⟨h_cv_Depot_MOST_DRIVERS, ⟨_, rfl⟩⟩⟩⟩),
    g_MOST_QUOTA := (⟨_, PySem.W.mg_of X G h_g_MOST_QUOTA⟩),
    g_MOST_DAYS := (⟨_, PySem.W.mg_of X G h_g_MOST_DAYS⟩),
    n_abs := (PySem.W.mg_none_of X G h_n_abs),
    n_bool := (PySem.W.mg_none_of X G h_n_bool),
    n_enumerate := (PySem.W.mg_none_of X G h_n_enumerate),
    n_int := (PySem.W.mg_none_of X G h_n_int),
    n_isinstance := (PySem.W.mg_none_of X G h_n_isinstance),
    n_len := (PySem.W.mg_none_of X G h_n_len),
    n_list := (PySem.W.mg_none_of X G h_n_list),
    n_max := (PySem.W.mg_none_of X G h_n_max),
    n_min := (PySem.W.mg_none_of X G h_n_min),
    n_range := (PySem.W.mg_none_of X G h_n_range),
    n_sorted := (PySem.W.mg_none_of X G h_n_sorted),
    n_str := (PySem.W.mg_none_of X G h_n_str),
    n_sum := (PySem.W.mg_none_of X G h_n_sum),
    n_tuple := (PySem.W.mg_none_of X G h_n_tuple),
    n_zip := (PySem.W.mg_none_of X G h_n_zip) }
  exact ⟨_, fun s v => .of_eq rfl, fun base _ _ => law_imp (ok_law T) pure_law⟩
end Pu
open PySem PySem.W PyProof.Rows
local macro_rules | `(tactic| kernel_rfl) => `(tactic| first | (with_reducible refine Pu.zzspl ?_ ?_ ?_; (rename_i w os; refine Eq.mpr ?_ (Pu.zzLooks w os); kernel_rfl!); (rename_i w os; refine Eq.mpr ?_ (Pu.zzSeen w os); kernel_rfl!); kernel_rfl!) | kernel_rfl!)
set_option maxRecDepth 100000 in
set_option maxHeartbeats 0 in
theorem PySem.Challenge.cw_outagain_k27_two_numbers_holds : PySem.Challenge.rw_outagain_k27_two_numbers.Holds := by
  w_on; o_law; k_headL; (case hw => w_witness2)
  k_fill
  refine L2.walk_of (l := PySem.Challenge.rw_outagain_k27_two_numbers) (n := 63) (k := 11) (x := "script") (CX := fun w => L2.CX PySem.Challenge.rw_outagain_k27_two_numbers.prog w) (sp := fun w => Pu.spLaw _) rfl (by decide) rfl ⟨rfl, by decide, by decide⟩ (fun w h Y => PySem.W.kIn_of Y) ?F (fun _ _ a ns hl _ hS => ⟨a, ns, rfl, hS, hl, fun _ => rfl⟩) (fun w H s e s' => Pu.cx_none H s e s')
  case F =>
    intro w mg fa h KX G hmg
    refine' Pu.all_mk Pu.pure_law KX G hmg ?h_lk__law_pool ?h_co__law_pool ?h_kp__law_pool ?h_ns__law_pool ?h_lk__law_take ?h_co__law_take ?h_kp__law_take ?h_ns__law_take ?h_lk__law_depot ?h_co__law_depot ?h_kp__law_depot ?h_ns__law_depot ?h_lk__law_spots ?h_co__law_spots ?h_kp__law_spots ?h_ns__law_spots ?h_lk__law_due_spots ?h_co__law_due_spots ?h_kp__law_due_spots ?h_ns__law_due_spots ?h_lk__law_dealing ?h_co__law_dealing ?h_kp__law_dealing ?h_ns__law_dealing ?h_lk__law_everybody ?h_co__law_everybody ?h_kp__law_everybody ?h_ns__law_everybody ?h_lk__law_fewest ?h_co__law_fewest ?h_kp__law_fewest ?h_ns__law_fewest ?h_lk_check_period_and_quota ?h_co_check_period_and_quota ?h_kp_check_period_and_quota ?h_ns_check_period_and_quota ?h_lk_check_firsts ?h_co_check_firsts ?h_kp_check_firsts ?h_ns_check_firsts ?h_lk_DepotU_initU ?h_co_DepotU_initU ?h_kp_DepotU_initU ?h_mk_Depot ?h_ini_Depot ?h_fn_DepotU_initU ?h_kc_Depot ?h_lk__law_steep ?h_co__law_steep ?h_kp__law_steep ?h_ns__law_steep ?h_lk__law_great ?h_co__law_great ?h_kp__law_great ?h_ns__law_great ?h_lk__law_counted ?h_co__law_counted ?h_kp__law_counted ?h_ns__law_counted ?h_lk_check_days ?h_co_check_days ?h_kp_check_days ?h_ns_check_days ?h_lk_Depot_size ?h_co_Depot_size ?h_kp_Depot_size ?h_at_Depot_size ?h_get_Depot_size ?h_tak_Depot_size ?h_rec_Depot_size ?h_lk_check_weekdays ?h_co_check_weekdays ?h_kp_check_weekdays ?h_ns_check_weekdays ?h_lk_check_wish ?h_co_check_wish ?h_kp_check_wish ?h_ns_check_wish ?h_lk_Depot_closings ?h_co_Depot_closings ?h_kp_Depot_closings ?h_at_Depot_closings ?h_fn_Depot_closings ?h_lk_need_reasons ?h_co_need_reasons ?h_kp_need_reasons ?h_ns_need_reasons ?h_lk_Depot_weekday ?h_co_Depot_weekday ?h_kp_Depot_weekday ?h_at_Depot_weekday ?h_fn_Depot_weekday ?h_lk_Depot_last_weekday ?h_co_Depot_last_weekday ?h_kp_Depot_last_weekday ?h_at_Depot_last_weekday ?h_fn_Depot_last_weekday ?h_lk_Depot_places ?h_co_Depot_places ?h_kp_Depot_places ?h_at_Depot_places ?h_get_Depot_places ?h_tak_Depot_places ?h_rec_Depot_places ?h_lk_Depot_due_places ?h_co_Depot_due_places ?h_kp_Depot_due_places ?h_at_Depot_due_places ?h_fn_Depot_due_places ?h_lk_crowd_reasons ?h_co_crowd_reasons ?h_kp_crowd_reasons ?h_ns_crowd_reasons ?h_lk_surplus ?h_co_surplus ?h_kp_surplus ?h_ns_surplus ?h_lk_last_needs ?h_co_last_needs ?h_kp_last_needs ?h_ns_last_needs ?h_lk_left_places ?h_co_left_places ?h_kp_left_places ?h_ns_left_places ?h_lk_free_firsts ?h_co_free_firsts ?h_kp_free_firsts ?h_ns_free_firsts ?h_lk_back_weekdays ?h_co_back_weekdays ?h_kp_back_weekdays ?h_ns_back_weekdays ?h_lk_late_needs ?h_co_late_needs ?h_kp_late_needs ?h_ns_late_needs ?h_lk_back_needs ?h_co_back_needs ?h_kp_back_needs ?h_ns_back_needs ?h_lk_closing_needs ?h_co_closing_needs ?h_kp_closing_needs ?h_ns_closing_needs ?h_lk_wish_reasons ?h_co_wish_reasons ?h_kp_wish_reasons ?h_ns_wish_reasons ?h_lk_deal ?h_co_deal ?h_kp_deal ?h_ns_deal ?h_lk_completed ?h_co_completed ?h_kp_completed ?h_ns_completed ?h_lk_reach ?h_co_reach ?h_kp_reach ?h_ns_reach ?h_lk__law_number ?h_co__law_number ?h_kp__law_number ?h_ns__law_number ?h_lk__law_same ?h_co__law_same ?h_kp__law_same ?h_ns__law_same ?h_lk__law_right ?h_co__law_right ?h_kp__law_right ?h_ns__law_right ?h_lk__law_twice ?h_co__law_twice ?h_kp__law_twice ?h_ns__law_twice ?h_lk_law ?h_co_law ?h_kp_law ?h_ns_law ?h_lk_BadDepotU_initU ?h_co_BadDepotU_initU ?h_kp_BadDepotU_initU ?h_lk_OutOfRangeU_initU ?h_co_OutOfRangeU_initU ?h_kp_OutOfRangeU_initU ?h_lk_BadWishU_initU ?h_co_BadWishU_initU ?h_kp_BadWishU_initU ?h_ns_Depot ?h_pg_Depot ?h_hd_Depot ?h_po_Depot ?h_sa_Depot ?h_no_Depot_period ?h_no_Depot_quota ?h_no_Depot_firsts ?h_ns_OutagainError ?h_ns_OutOfRange ?h_ns_BadDepot ?h_ns_BadWish ?h_xo_BadDepot ?h_ve_BadDepot ?h_sa_BadDepot ?h_kc_BadDepot ?h_ini_BadDepot ?h_tf_BadDepot ?h_no_BadDepot_at ?h_no_BadDepot_code ?h_be_BadDepot ?h_ty_BadDepot ?h_xo_OutOfRange ?h_ve_OutOfRange ?h_sa_OutOfRange ?h_kc_OutOfRange ?h_ini_OutOfRange ?h_tf_OutOfRange ?h_no_OutOfRange_at ?h_no_OutOfRange_code ?h_be_OutOfRange ?h_ty_OutOfRange ?h_xo_BadWish ?h_ve_BadWish ?h_sa_BadWish ?h_kc_BadWish ?h_ini_BadWish ?h_tf_BadWish ?h_no_BadWish_at ?h_no_BadWish_code ?h_be_BadWish ?h_ty_BadWish ?h_rd_Depot ?h_sga_Depot ?h_cv_Depot_MOST_PERIOD ?h_cv_Depot_MOST_DRIVERS ?h_g_MOST_QUOTA ?h_g_MOST_DAYS ?h_n_abs ?h_n_bool ?h_n_enumerate ?h_n_int ?h_n_isinstance ?h_n_len ?h_n_list ?h_n_max ?h_n_min ?h_n_range ?h_n_sorted ?h_n_str ?h_n_sum ?h_n_tuple ?h_n_zip
    (case h_ns__law_pool => k_is)
    (case h_ns__law_take => k_is)
    (case h_ns__law_depot => k_is)
    (case h_ns__law_spots => k_is)
    (case h_ns__law_due_spots => k_is)
    (case h_ns__law_dealing => k_is)
    (case h_ns__law_everybody => k_is)
    (case h_ns__law_fewest => k_is)
    (case h_ns_check_period_and_quota => k_is)
    (case h_ns_check_firsts => k_is)
    (case h_ns__law_steep => k_is)
    (case h_ns__law_great => k_is)
    (case h_ns__law_counted => k_is)
    (case h_ns_check_days => k_is)
    (case h_ns_check_weekdays => k_is)
    (case h_ns_check_wish => k_is)
    (case h_ns_need_reasons => k_is)
    (case h_ns_crowd_reasons => k_is)
    (case h_ns_surplus => k_is)
    (case h_ns_last_needs => k_is)
    (case h_ns_left_places => k_is)
    (case h_ns_free_firsts => k_is)
    (case h_ns_back_weekdays => k_is)
    (case h_ns_late_needs => k_is)
    (case h_ns_back_needs => k_is)
    (case h_ns_closing_needs => k_is)
    (case h_ns_wish_reasons => k_is)
    (case h_ns_deal => k_is)
    (case h_ns_completed => k_is)
    (case h_ns_reach => k_is)
    (case h_ns__law_number => k_is)
    (case h_ns__law_same => k_is)
    (case h_ns__law_right => k_is)
    (case h_ns__law_twice => k_is)
    (case h_ns_law => k_is)
    (case h_ns_Depot => k_is)
    (case h_ns_OutagainError => k_is)
    (case h_ns_OutOfRange => k_is)
    (case h_ns_BadDepot => k_is)
    (case h_ns_BadWish => k_is)
    (case h_g_MOST_QUOTA => k_is)
    (case h_g_MOST_DAYS => k_is)
    (case h_n_abs => k_is)
    (case h_n_bool => k_is)
    (case h_n_enumerate => k_is)
    (case h_n_int => k_is)
    (case h_n_isinstance => k_is)
    (case h_n_len => k_is)
    (case h_n_list => k_is)
    (case h_n_max => k_is)
    (case h_n_min => k_is)
    (case h_n_range => k_is)
    (case h_n_sorted => k_is)
    (case h_n_str => k_is)
    (case h_n_sum => k_is)
    (case h_n_tuple => k_is)
    (case h_n_zip => k_is)
    (case h_ini_Depot => k_is)
    (case h_at_Depot_size => k_is)
    (case h_at_Depot_closings => k_is)
    (case h_at_Depot_weekday => k_is)
    (case h_at_Depot_last_weekday => k_is)
    (case h_at_Depot_places => k_is)
    (case h_at_Depot_due_places => k_is)
    (case h_ini_BadDepot => k_is)
    (case h_ini_OutOfRange => k_is)
    (case h_ini_BadWish => k_is)
    (case h_rec_Depot_size => k_is)
    (case h_rec_Depot_places => k_is)
    (case h_lk__law_pool => k_is)
    (case h_lk__law_take => k_is)
    (case h_lk__law_depot => k_is)
    (case h_lk__law_spots => k_is)
    (case h_lk__law_due_spots => k_is)
    (case h_lk__law_dealing => k_is)
    (case h_lk__law_everybody => k_is)
    (case h_lk__law_fewest => k_is)
    (case h_lk_check_period_and_quota => k_is)
    (case h_lk_check_firsts => k_is)
    (case h_lk_DepotU_initU => k_is)
    (case h_lk__law_steep => k_is)
    (case h_lk__law_great => k_is)
    (case h_lk__law_counted => k_is)
    (case h_lk_check_days => k_is)
    (case h_lk_Depot_size => k_is)
    (case h_lk_check_weekdays => k_is)
    (case h_lk_check_wish => k_is)
    (case h_lk_Depot_closings => k_is)
    (case h_lk_need_reasons => k_is)
    (case h_lk_Depot_weekday => k_is)
    (case h_lk_Depot_last_weekday => k_is)
    (case h_lk_Depot_places => k_is)
    (case h_lk_Depot_due_places => k_is)
    (case h_lk_crowd_reasons => k_is)
    (case h_lk_surplus => k_is)
    (case h_lk_last_needs => k_is)
    (case h_lk_left_places => k_is)
    (case h_lk_free_firsts => k_is)
    (case h_lk_back_weekdays => k_is)
    (case h_lk_late_needs => k_is)
    (case h_lk_back_needs => k_is)
    (case h_lk_closing_needs => k_is)
    (case h_lk_wish_reasons => k_is)
    (case h_lk_deal => k_is)
    (case h_lk_completed => k_is)
    (case h_lk_reach => k_is)
    (case h_lk__law_number => k_is)
    (case h_lk__law_same => k_is)
    (case h_lk__law_right => k_is)
    (case h_lk__law_twice => k_is)
    (case h_lk_law => k_is)
    (case h_lk_BadDepotU_initU => k_is)
    (case h_lk_OutOfRangeU_initU => k_is)
    (case h_lk_BadWishU_initU => k_is)
    (case h_xo_BadDepot => k_is)
    (case h_xo_OutOfRange => k_is)
    (case h_xo_BadWish => k_is)
    (case h_co__law_pool => k_is)
    (case h_kp__law_pool => k_is)
    (case h_co__law_take => k_is)
    (case h_kp__law_take => k_is)
    (case h_co__law_depot => k_is)
    (case h_kp__law_depot => k_is)
    (case h_co__law_spots => k_is)
    (case h_kp__law_spots => k_is)
    (case h_co__law_due_spots => k_is)
    (case h_kp__law_due_spots => k_is)
    (case h_co__law_dealing => k_is)
    (case h_kp__law_dealing => k_is)
    (case h_co__law_everybody => k_is)
    (case h_kp__law_everybody => k_is)
    (case h_co__law_fewest => k_is)
    (case h_kp__law_fewest => k_is)
    (case h_co_check_period_and_quota => k_is)
    (case h_kp_check_period_and_quota => k_is)
    (case h_co_check_firsts => k_is)
    (case h_kp_check_firsts => k_is)
    (case h_co_DepotU_initU => k_is)
    (case h_kp_DepotU_initU => k_is)
    (case h_mk_Depot => k_is)
    (case h_fn_DepotU_initU => k_is)
    (case h_kc_Depot => k_is)
    (case h_co__law_steep => k_is)
    (case h_kp__law_steep => k_is)
    (case h_co__law_great => k_is)
    (case h_kp__law_great => k_is)
    (case h_co__law_counted => k_is)
    (case h_kp__law_counted => k_is)
    (case h_co_check_days => k_is)
    (case h_kp_check_days => k_is)
    (case h_co_Depot_size => k_is)
    (case h_kp_Depot_size => k_is)
    (case h_get_Depot_size => k_is)
    (case h_tak_Depot_size => k_is)
    (case h_co_check_weekdays => k_is)
    (case h_kp_check_weekdays => k_is)
    (case h_co_check_wish => k_is)
    (case h_kp_check_wish => k_is)
    (case h_co_Depot_closings => k_is)
    (case h_kp_Depot_closings => k_is)
    (case h_fn_Depot_closings => k_is)
    (case h_co_need_reasons => k_is)
    (case h_kp_need_reasons => k_is)
    (case h_co_Depot_weekday => k_is)
    (case h_kp_Depot_weekday => k_is)
    (case h_fn_Depot_weekday => k_is)
    (case h_co_Depot_last_weekday => k_is)
    (case h_kp_Depot_last_weekday => k_is)
    (case h_fn_Depot_last_weekday => k_is)
    (case h_co_Depot_places => k_is)
    (case h_kp_Depot_places => k_is)
    (case h_get_Depot_places => k_is)
    (case h_tak_Depot_places => k_is)
    (case h_co_Depot_due_places => k_is)
    (case h_kp_Depot_due_places => k_is)
    (case h_fn_Depot_due_places => k_is)
    (case h_co_crowd_reasons => k_is)
    (case h_kp_crowd_reasons => k_is)
    (case h_co_surplus => k_is)
    (case h_kp_surplus => k_is)
    (case h_co_last_needs => k_is)
    (case h_kp_last_needs => k_is)
    (case h_co_left_places => k_is)
    (case h_kp_left_places => k_is)
    (case h_co_free_firsts => k_is)
    (case h_kp_free_firsts => k_is)
    (case h_co_back_weekdays => k_is)
    (case h_kp_back_weekdays => k_is)
    (case h_co_late_needs => k_is)
    (case h_kp_late_needs => k_is)
    (case h_co_back_needs => k_is)
    (case h_kp_back_needs => k_is)
    (case h_co_closing_needs => k_is)
    (case h_kp_closing_needs => k_is)
    (case h_co_wish_reasons => k_is)
    (case h_kp_wish_reasons => k_is)
    (case h_co_deal => k_is)
    (case h_kp_deal => k_is)
    (case h_co_completed => k_is)
    (case h_kp_completed => k_is)
    (case h_co_reach => k_is)
    (case h_kp_reach => k_is)
    (case h_co__law_number => k_is)
    (case h_kp__law_number => k_is)
    (case h_co__law_same => k_is)
    (case h_kp__law_same => k_is)
    (case h_co__law_right => k_is)
    (case h_kp__law_right => k_is)
    (case h_co__law_twice => k_is)
    (case h_kp__law_twice => k_is)
    (case h_co_law => k_is)
    (case h_kp_law => k_is)
    (case h_co_BadDepotU_initU => k_is)
    (case h_kp_BadDepotU_initU => k_is)
    (case h_co_OutOfRangeU_initU => k_is)
    (case h_kp_OutOfRangeU_initU => k_is)
    (case h_co_BadWishU_initU => k_is)
    (case h_kp_BadWishU_initU => k_is)
    (case h_pg_Depot => k_is)
    (case h_hd_Depot => k_is)
    (case h_po_Depot => k_is)
    (case h_sa_Depot => k_is)
    (case h_no_Depot_period => k_is)
    (case h_no_Depot_quota => k_is)
    (case h_no_Depot_firsts => k_is)
    (case h_ve_BadDepot => (first | decide +kernel | k_is))
    (case h_sa_BadDepot => k_is)
    (case h_kc_BadDepot => k_is)
    (case h_tf_BadDepot => k_is)
    (case h_no_BadDepot_at => k_is)
    (case h_no_BadDepot_code => k_is)
    (case h_be_BadDepot => k_is)
    (case h_ty_BadDepot => k_is)
    (case h_ve_OutOfRange => (first | decide +kernel | k_is))
    (case h_sa_OutOfRange => k_is)
    (case h_kc_OutOfRange => k_is)
    (case h_tf_OutOfRange => k_is)
    (case h_no_OutOfRange_at => k_is)
    (case h_no_OutOfRange_code => k_is)
    (case h_be_OutOfRange => k_is)
    (case h_ty_OutOfRange => k_is)
    (case h_ve_BadWish => (first | decide +kernel | k_is))
    (case h_sa_BadWish => k_is)
    (case h_kc_BadWish => k_is)
    (case h_tf_BadWish => k_is)
    (case h_no_BadWish_at => k_is)
    (case h_no_BadWish_code => k_is)
    (case h_be_BadWish => k_is)
    (case h_ty_BadWish => k_is)
    (case h_rd_Depot => k_is)
    (case h_sga_Depot => k_is)
    (case h_cv_Depot_MOST_PERIOD => k_is)
    (case h_cv_Depot_MOST_DRIVERS => k_is)
