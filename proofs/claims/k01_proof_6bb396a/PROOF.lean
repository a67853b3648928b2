import PyProof.Rows.All
import Wide.All
import OpenK.AllK
import Wide.FinOn
import KE.KStateDown
import Lean
import HandS.Head0
import HandS.Head1
import HandS.Head2
import HandS.HeadHook4
import HandS.ForMost
import HandS.Exc
import HandS.TryOnly
import HandS.ExcOwn
import HandS.WordsExc
import HandS.Deep
import HandS.Walk
import HandS.Zip
import HandS.Conv
import KE.KDictKeyed
import HandS.TupLe
import HandS.TupAny
import HandS.Lambda
import HandS.Property
import HandS.IsInst
import HandS.Wide
import HandS.TupSets
import KE.GoesEnum
import KE.GoesZip
import HandS.Star
import HandS.Style
import HandS.Dict
import HandS.TupLen
import HandS.Iter
import HandS.SortInts
import HandS.NamedTupSort
import HandS.SetBool
import HandS.WordsDict
import HandS.Set
import PyProof.SetRoads
import HandS.ExcField
import HandS.ExcInit
import KE.KExcSuper
import KE.KSuper
import HandS.MakeKwOnly
import HandS.HeadNt
import HandS.HeadWalk
import PySem.Challenge.RW_shardmove_k01_whole_placings
section
set_option Elab.async false
set_option linter.all false
set_option maxRecDepth 100000
set_option maxHeartbeats 4000000
/-! data read as a whole, over the hand layer -/
namespace Pd
open PySem PySem.Spec PyProof.Rows L2

/-! ### heaps -/
def cut (O : List Addr) (H : Hp) : Hp := fun a => if a ∈ O then none else H a
theorem cut_some {O : List Addr} {H : Hp} {a : Addr} {o : HO} (h : cut O H a = some o) : H a = some o ∧ a ∉ O := by
  unfold cut at h
  split at h
  · cases h
  · exact ⟨h, by assumption⟩
theorem cut_of {O : List Addr} {H : Hp} {a : Addr} {o : HO} (h : H a = some o) (n : a ∉ O) : cut O H a = some o := by
  unfold cut; rw [if_neg n]; exact h
theorem cut_same {O O' : List Addr} {H H' : Hp} (hs : ∀ b o, H b = some o → b ∉ O → H' b = some o) (hO : ∀ b o, H b = some o → b ∈ O' → b ∈ O) : Same (cut O H) (cut O' H') := fun b o h => by
  obtain ⟨h1, h2⟩ := cut_some h
  exact cut_of (hs b o h1 h2) fun z => h2 (hO b o h1 z)
theorem cut_le {O : List Addr} {H : Hp} : Same (cut O H) H := fun b o h => (cut_some h).1

theorem Same.seqT {K : PySem.W.Frag} {H H' : Hp} {a : Addr} {xs : List V} (e : Same H H') (h : SqT K H a xs) : SqT K H' a xs := by
  rcases h with (h | ⟨o, h⟩) | h
  · exact .inl (.inl (e _ _ h))
  · exact .inl (.inr ⟨o, e _ _ h⟩)
  · exact .inr h
mutual
theorem Dp.mono {K : PySem.W.Frag} {H H' : Hp} (e : Same H H') : ∀ (d : PyData) (v : V), Dp K H v d → Dp K H' v d
  | .none, _, h => by cases h; exact .non
  | .bool b, _, h => by cases h; exact .bl b
  | .int i, _, h => by cases h; exact .int i
  | .str x, _, h => by cases h; exact .str x
  | .list ds, _, h => by
    cases h with
    | lst hs ha => exact .lst (e.seq hs) (DpAll.mono e ds _ ha)
  | .tuple ds, _, h => by
    cases h with
    | tup hs ha => exact .tup (Same.seqT e hs) (DpAll.mono e ds _ ha)
  | .dict _, _, h => by cases h
theorem DpAll.mono {K : PySem.W.Frag} {H H' : Hp} (e : Same H H') : ∀ (ds : List PyData) (vs : List V), DpAll K H vs ds → DpAll K H' vs ds
  | [], _, h => by cases h; exact .nil
  | d :: ds, _, h => by
    cases h with
    | cons h1 h2 => exact .cons (Dp.mono e d _ h1) (DpAll.mono e ds _ h2)
end
theorem DpAll.length {K : PySem.W.Frag} {H : Hp} : ∀ {vs : List V} {ds : List PyData}, DpAll K H vs ds → vs.length = ds.length
  | _, _, .nil => rfl
  | _, _, .cons _ t => by rw [List.length_cons, List.length_cons, DpAll.length t]
theorem DpAll.get {K : PySem.W.Frag} {H : Hp} : ∀ {vs : List V} {ds : List PyData} {i : Nat} {d : PyData}, DpAll K H vs ds → ds[i]? = some d → ∃ v, vs[i]? = some v ∧ Dp K H v d
  | _, _, _, _, .nil, e => by simp at e
  | _, _, 0, _, .cons r _, e => by simp at e; subst e; exact ⟨_, rfl, r⟩
  | _, _, i + 1, d, .cons _ t, e => by
    obtain ⟨v, h1, h2⟩ := DpAll.get (i := i) (d := d) t (by simpa using e)
    exact ⟨v, by simpa using h1, h2⟩
theorem DpAll.getV {K : PySem.W.Frag} {H : Hp} : ∀ {vs : List V} {ds : List PyData} {i : Nat} {v : V}, DpAll K H vs ds → vs[i]? = some v → ∃ d, ds[i]? = some d ∧ Dp K H v d
  | _, _, _, _, .nil, e => by simp at e
  | _, _, 0, _, .cons r _, e => by simp at e; subst e; exact ⟨_, rfl, r⟩
  | _, _, i + 1, v, .cons _ t, e => by
    obtain ⟨d, h1, h2⟩ := DpAll.getV (i := i) (v := v) t (by simpa using e)
    exact ⟨d, by simpa using h1, h2⟩
theorem DpAll.append {K : PySem.W.Frag} {H : Hp} : ∀ {vs ws : List V} {ds es : List PyData}, DpAll K H vs ds → DpAll K H ws es → DpAll K H (vs ++ ws) (ds ++ es)
  | _, _, _, _, .nil, s => s
  | _, _, _, _, .cons r t, s => .cons r (DpAll.append t s)
theorem DpAll.take {K : PySem.W.Frag} {H : Hp} : ∀ {vs : List V} {ds : List PyData} (n : Nat), DpAll K H vs ds → DpAll K H (vs.take n) (ds.take n)
  | _, _, 0, _ => .nil
  | _, _, _ + 1, .nil => .nil
  | _, _, n + 1, .cons r t => .cons r (DpAll.take n t)
theorem DpAll.drop {K : PySem.W.Frag} {H : Hp} : ∀ {vs : List V} {ds : List PyData} (n : Nat), DpAll K H vs ds → DpAll K H (vs.drop n) (ds.drop n)
  | _, _, 0, r => r
  | _, _, _ + 1, .nil => .nil
  | _, _, n + 1, .cons _ t => DpAll.drop n t
theorem DpAll.set {K : PySem.W.Frag} {H : Hp} {v : V} {d : PyData} (h : Dp K H v d) : ∀ {vs : List V} {ds : List PyData} (n : Nat), DpAll K H vs ds → DpAll K H (vs.set n v) (ds.set n d)
  | _, _, _, .nil => .nil
  | _, _, 0, .cons _ t => .cons h t
  | _, _, n + 1, .cons r t => .cons r (DpAll.set h n t)
/-- what data are, by their forms -/
theorem Dp.isInt {K : PySem.W.Frag} {H : Hp} {v : V} {i : Int} (h : Dp K H v (.int i)) : v = .int i := by cases h; rfl
theorem Dp.isBool {K : PySem.W.Frag} {H : Hp} {v : V} {i : Bool} (h : Dp K H v (.bool i)) : v = .bl i := by cases h; rfl
theorem Dp.isStr {K : PySem.W.Frag} {H : Hp} {v : V} {i : Str} (h : Dp K H v (.str i)) : v = .str i := by cases h; rfl
theorem Dp.isNone {K : PySem.W.Frag} {H : Hp} {v : V} (h : Dp K H v .none) : v = .non := by cases h; rfl
theorem Dp.isList {K : PySem.W.Frag} {H : Hp} {v : V} {ds} (h : Dp K H v (.list ds)) : ∃ a xs, v = .ref a ∧ SqL K H a xs ∧ DpAll K H xs ds := by cases h; exact ⟨_, _, rfl, by assumption, by assumption⟩
theorem Dp.isTup {K : PySem.W.Frag} {H : Hp} {v : V} {ds} (h : Dp K H v (.tuple ds)) : ∃ a xs, v = .ref a ∧ SqT K H a xs ∧ DpAll K H xs ds := by cases h; exact ⟨_, _, rfl, by assumption, by assumption⟩
theorem DpAll.ints {K : PySem.W.Frag} {H : Hp} : ∀ {vs : List V} {ns : List Int}, DpAll K H vs (ns.map .int) → vs = ns.map V.int
  | _, [], .nil => rfl
  | _, n :: ns, .cons r t => by rw [Dp.isInt r, DpAll.ints t]; rfl
theorem DpAll.bools {K : PySem.W.Frag} {H : Hp} : ∀ {vs : List V} {ns : List Bool}, DpAll K H vs (ns.map .bool) → vs = ns.map V.bl
  | _, [], .nil => rfl
  | _, n :: ns, .cons r t => by rw [Dp.isBool r, DpAll.bools t]; rfl

/-! ### what a slot holds -/
inductive SV where
  | da (d : PyData)
  | obj (C : Addr) (fs : List (Str × PyData))
  | own (ds : List PyData)
  | dic (kvs : List (PyData × PyData))

def RepF (K : PySem.W.Frag) (H : Hp) : List (Str × V) → List (Str × PyData) → Prop := Paired fun p q => p.1 = q.1 ∧ Dp K H p.2 q.2
theorem RepF.mono {K : PySem.W.Frag} {H H' : Hp} (e : Same H H') {gs fs} (h : RepF K H gs fs) : RepF K H' gs fs :=
  Paired.mapP h fun p q r => ⟨r.1, Dp.mono e _ _ r.2⟩
theorem RepF.look {K : PySem.W.Frag} {H : Hp} {f : Str} : ∀ {gs : List (Str × V)} {fs : List (Str × PyData)} {d : PyData}, RepF K H gs fs → fs.lookup f = some d → ∃ v, gs.lookup f = some v ∧ Dp K H v d
  | _, _, _, .nil, e => by simp at e
  | (g, v) :: gs, (g', d') :: fs, d, .cons r t, e => by
    obtain ⟨r1, r2⟩ := r
    have r1' : g = g' := r1
    subst r1'
    rw [List.lookup_cons] at e ⊢
    split at e
    · cases e; exact ⟨v, rfl, r2⟩
    · exact RepF.look t e

/-- a value that is handed on -/
def RepR (K : PySem.W.Frag) (O : List Addr) (H : Hp) (v : V) : SV → Prop
  | .da d => Dp K (cut O H) v d
  | .obj C fs => ∃ a dx gs, v = .ref a ∧ cut O H a = some (.ins C dx gs) ∧ RepF K (cut O H) gs fs
  | .own _ => False
  | .dic _ => False
theorem RepR.mono {K : PySem.W.Frag} {O O' : List Addr} {H H' : Hp} {v : V} {sv : SV} (e : Same (cut O H) (cut O' H')) (h : RepR K O H v sv) : RepR K O' H' v sv := by
  cases sv with
  | da d => exact Dp.mono e _ _ h
  | obj C fs => obtain ⟨a, dx, gs, h1, h2, h3⟩ := h; exact ⟨a, dx, gs, h1, e _ _ h2, h3.mono e⟩
  | own ds => exact h
  | dic ds => exact h
/-! ### dicts whose keys are data -/
mutual
/-- data as keys: ints and tuples of such -/
def keyD : PyData → Option NestedKey
  | .int i => some (.num i)
  | .tuple ds => (keysD ds).map .tup
  | .none | .bool _ | .str _ | .list _ | .dict _ => none
def keysD : List PyData → Option (List NestedKey)
  | [] => some []
  | d :: ds => (keyD d).bind fun k => (keysD ds).map (k :: ·)
end
/-- the dict at l: its entries by key, the key's tuple, the value -/
def DicO (w : World) (l : Addr) (xs : List (NestedKey × Addr × Value)) : Heap → Prop := fun h => ∃ o es ep, h.get? l = some o ∧ o.ExactDict ∧ o.data = .dict es ep ∧ es.toList = xs.map fun x => ⟨x.1.hash w, .ref x.2.1, x.2.2⟩
structure DicE (K : PySem.W.Frag) (H : Hp) (p : PyData × PyData) (q : NestedKey × Addr × Value) : Prop where
  key : keyD p.1 = some q.1
  dep : q.1.depth ≤ 8
  kat : Dp K H (.ref q.2.1) p.1
  val : ∃ vv : V, RelV vv q.2.2 ∧ Dp K H vv p.2
structure DicR (K : PySem.W.Frag) (H : Hp) (l : Addr) (kvs : List (PyData × PyData)) (xs : List (NestedKey × Addr × Value)) : Prop where
  ent : Paired (DicE K H) kvs xs
  nd : (xs.map (·.1)).Nodup
  sys : (l == sysModules) = false
  len : xs.length ≤ sizeLine
theorem DicR.mono {K : PySem.W.Frag} {H H' : Hp} {l : Addr} {kvs xs} (e : Same H H') (r : DicR K H l kvs xs) : DicR K H' l kvs xs :=
  ⟨Paired.mapP r.ent fun p q x => ⟨x.key, x.dep, Dp.mono e _ _ x.kat, by obtain ⟨vv, h1, h2⟩ := x.val; exact ⟨vv, h1, Dp.mono e _ _ h2⟩⟩, r.nd, r.sys, r.len⟩
/-- a slot, an argument -/
def RepS (K : PySem.W.Frag) (O M : List Addr) (H : Hp) (v : V) : SV → Prop
  | .own ds => ∃ l vs, v = .ref l ∧ l ∈ M ∧ H l = some (.lst vs) ∧ DpAll K (cut O H) vs ds
  | .dic kvs => ∃ l xs w, v = .ref l ∧ l ∈ M ∧ H l = some (.ext (DicO w l xs)) ∧ DicR K (cut O H) l kvs xs
  | sv => RepR K O H v sv

abbrev PEnv := List (Option SV)

/-- the entry of a body: its heap, what is owned there, the slots of the parameters that are owned lists -/
structure Ent where
  K : PySem.W.Frag
  H : Hp
  O : List Addr
  par : List (Nat × Addr)
  tbs : List (Addr × Str)

structure R (T : Ent) (O M : List Addr) (env : PEnv) (σ : L2.St) (H : Hp) : Prop where
  len : env.length = σ.length
  at_ : ∀ (i : Nat) (sv : SV), env[i]? = some (some sv) → ∃ v : V, σ[i]? = some (some v) ∧ RepS T.K O M H v sv
  apart : ∀ (i j : Nat) (a : Addr) (ds es : List PyData), env[i]? = some (some (.own ds)) → env[j]? = some (some (.own es)) → σ[i]? = some (some (.ref a)) → σ[j]? = some (some (.ref a)) → i = j
  apartD : ∀ (i j : Nat) (a : Addr) (ds es : List (PyData × PyData)), env[i]? = some (some (.dic ds)) → env[j]? = some (some (.dic es)) → σ[i]? = some (some (.ref a)) → σ[j]? = some (some (.ref a)) → i = j
  live : ∀ l ∈ O, H l ≠ none
  sub : ∀ l ∈ M, l ∈ O
  ent : ∀ l ∈ T.O, l ∈ O
  mine : ∀ l ∈ M, l ∈ T.par.map (·.2) ∨ T.H l = none ∨ l ∈ T.tbs.map (·.1)
  frame : ∀ b o, T.H b = some o → b ∉ T.par.map (·.2) → b ∉ T.tbs.map (·.1) → H b = some o
  pars : ∀ p ∈ T.par, σ[p.1]? = some (some (.ref p.2)) ∧ ∃ ds, env[p.1]? = some (some (.own ds))
  tabs : LamX.Tabs T.tbs H
  tin : ∀ p ∈ T.tbs, p.1 ∈ M

/-- all but M stays -/
def Fr (M : List Addr) (H H' : Hp) : Prop := ∀ b o, H b = some o → b ∉ M → H' b = some o
theorem Fr.refl {M H} : Fr M H H := fun _ _ h _ => h
theorem Fr.trans {M : List Addr} {H H1 H2 : Hp} (a : Fr M H H1) (b : Fr M H1 H2) : Fr M H H2 := fun c o h n => b c o (a c o h n) n
theorem Fr.of {M : List Addr} {H H' : Hp} (e : Same H H') : Fr M H H' := fun b o h _ => e b o h
theorem Fr.cut {M O : List Addr} {H H' : Hp} (a : Fr M H H') (s : ∀ l ∈ M, l ∈ O) : Same (cut O H) (cut O H') :=
  cut_same (fun b o h n => a b o h fun z => n (s b z)) fun _ _ _ z => z
theorem RepR.fr {K : PySem.W.Frag} {O M : List Addr} {H H' : Hp} {v : V} {sv : SV} (h : RepR K O H v sv) (a : Fr M H H') (s : ∀ l ∈ M, l ∈ O) : RepR K O H' v sv := h.mono (a.cut s)

section
variable {T : Ent} {O M : List Addr} {env : PEnv} {σ : L2.St} {H H' : Hp}
theorem tabs_but2 {tbs : List (Addr × Str)} {H H' : Hp} {l : Addr} (t : LamX.Tabs tbs H) (hl : (∀ ps, H l ≠ some (.tbl ps)) ∧ ∀ φ, H l ≠ some (.ext φ)) (f : ∀ b o, H b = some o → b ≠ l → H' b = some o) : LamX.Tabs tbs H' := fun p hp => by
  obtain ⟨ps, h1, h2, h3⟩ := t p hp
  refine ⟨ps, f _ _ h1 fun z => hl.1 ps (by rw [← z]; exact h1), h2, fun pos cv hc => ?_⟩
  obtain ⟨c, e, h4⟩ := h3 pos cv hc
  exact ⟨c, e, f _ _ h4 fun z => hl.2 _ (by rw [← z]; exact h4)⟩
theorem tabs_but {tbs : List (Addr × Str)} {H H' : Hp} {l : Addr} (t : LamX.Tabs tbs H) (hl : ∃ vs, H l = some (.lst vs)) (f : ∀ b o, H b = some o → b ≠ l → H' b = some o) : LamX.Tabs tbs H' := fun p hp => by
  obtain ⟨vs, hl⟩ := hl
  obtain ⟨ps, h1, h2, h3⟩ := t p hp
  refine ⟨ps, f _ _ h1 fun z => ?_, h2, fun pos cv hc => ?_⟩
  · rw [z, hl] at h1; cases h1
  · obtain ⟨c, e, h4⟩ := h3 pos cv hc
    refine ⟨c, e, f _ _ h4 fun z => ?_⟩
    rw [z, hl] at h4
    unfold LamX.CodeO at h4
    cases h4
theorem R.same (r : R T O M env σ H) (e : Same H H') : R T O M env σ H' where
  len := r.len
  at_ := fun i sv h => by
    obtain ⟨v, h1, h2⟩ := r.at_ i sv h
    refine ⟨v, h1, ?_⟩
    have ec : Same (cut O H) (cut O H') := (Fr.of e : Fr M H H').cut r.sub
    cases sv with
    | da d => exact RepR.mono (sv := .da d) ec h2
    | obj C fs => exact RepR.mono (sv := .obj C fs) ec h2
    | own ds => obtain ⟨l, vs, q1, q2, q3, q4⟩ := h2; exact ⟨l, vs, q1, q2, e _ _ q3, DpAll.mono ec _ _ q4⟩
    | dic ds => obtain ⟨l, xs, w, q1, q2, q3, q4⟩ := h2; exact ⟨l, xs, w, q1, q2, e _ _ q3, q4.mono ec⟩
  apart := r.apart
  apartD := r.apartD
  live := fun l h z => by
    cases q : H l with
    | none => exact r.live l h q
    | some o => rw [e l o q] at z; cases z
  sub := r.sub
  ent := r.ent
  mine := r.mine
  frame := fun b o h n n2 => e b o (r.frame b o h n n2)
  pars := r.pars
  tabs := r.tabs.ext e
  tin := r.tin
theorem R.cut (r : R T O M env σ H) (a : Fr M H H') : Same (Pd.cut O H) (Pd.cut O H') := a.cut r.sub
/-- a new object does not stand among the owned -/
theorem R.new (r : R T O M env σ H) {p : Addr} (h : H p = none) : p ∉ O := fun z => r.live p z h
theorem cut_upd {O : List Addr} {H : Hp} {p : Addr} {o : HO} (h : p ∉ O) : cut O (upd H p o) p = some o := cut_of upd_same h
theorem same_upd {H : Hp} {p : Addr} {o : HO} (h : H p = none) : Same H (upd H p o) := fun b x e => by
  rw [upd_ne (ne_of_none e h)]; exact e
end

/-! ### outcomes -/
inductive Out (α : Type) where
  | ok (a : α) (env : PEnv)
  | exc (C : Addr) (fs : List (Str × PyData))
abbrev Mo (α : Type) := PEnv → Option (Out α)
def bindM {α β : Type} (m : Mo α) (k : α → Mo β) : Mo β := fun env => match m env with
  | some (.ok a e) => k a e
  | some (.exc C fs) => some (.exc C fs)
  | none => none
def retM {α : Type} (a : α) : Mo α := fun env => some (.ok a env)
def liftO {α : Type} (o : Option α) : Mo α := fun env => match o with
  | some a => some (.ok a env)
  | none => none

/-- an exception on its way -/
def RepX (K : PySem.W.Frag) (O : List Addr) (H : Hp) (fs : List (Str × PyData)) (od : Option Addr) : Prop :=
  (fs = [] ∧ od = none) ∨ ∃ d gs, od = some d ∧ H d = some (.xd gs) ∧ d ∉ O ∧ RepF K (cut O H) gs fs

/-- what is wanted of an exception; the tables of code objects -/
structure Wish where
  xk : XK
  tbs : List (Addr × Str)
abbrev Wish.no (E : Wish) : Wish := ⟨E0, E.tbs⟩
structure KT (T : Ent) (K : PySem.W.Frag) (E : Wish) : Prop where
  eq : T.K = K
  tb : T.tbs = E.tbs
theorem KT.no {T : Ent} {K : PySem.W.Frag} {E : Wish} (h : KT T K E) : KT T K E.no := ⟨h.eq, h.tb⟩
structure PasW (X : Cx) (E : Wish) : Prop where
  p : Passes (L2.CX X.prog X.w) X E.xk
def FrT (T : Ent) (H' : Hp) : Prop := ∀ b o, T.H b = some o → b ∉ T.par.map (·.2) → b ∉ T.tbs.map (·.1) → H' b = some o
theorem R.frT {T : Ent} {O M : List Addr} {env : PEnv} {σ : L2.St} {H H' : Hp} (r : R T O M env σ H) (f : Fr M H H') : FrT T H' := fun b o h n n2 => by
  refine f b o (r.frame b o h n n2) fun z => ?_
  rcases r.mine b z with q | q | q
  · exact n q
  · rw [q] at h; cases h
  · exact n2 q
theorem RepX.ent {K : PySem.W.Frag} {O O' : List Addr} {H : Hp} {fs od} (h : RepX K O H fs od) (s : ∀ l ∈ O', l ∈ O) : RepX K O' H fs od := by
  rcases h with h | ⟨d, gs, h1, h2, h3, h4⟩
  · exact .inl h
  · exact .inr ⟨d, gs, h1, h2, fun z => h3 (s d z), h4.mono (cut_same (fun _ _ q _ => q) fun b _ _ z => s b z)⟩
/-- an exception's wish -/
def XP (T : Ent) (E : Wish) (C : Addr) (fs : List (Str × PyData)) : Prop := ∀ od H', FrT T H' → LamX.Tabs T.tbs H' → RepX T.K T.O H' fs od → E.xk (.ref C) od H'

/-- what is wanted behind an expression -/
def Post (T : Ent) (E : Wish) (O M : List Addr) (σ : L2.St) (H : Hp) (Q : VK) : Out SV → Prop
  | .ok d env' => ∀ v H', R T O M env' σ H' → Fr M H H' → RepR T.K O H' v d → Q v H'
  | .exc C fs => XP T E C fs
def SatE (K : PySem.W.Frag) (E : Wish) (t : TE) (f : Mo SV) : Prop := ∀ (T : Ent) (O M : List Addr) (env : PEnv) (σ : L2.St) (H : Hp) (Q : VK) (o : Out SV), KT T K E → R T O M env σ H → f env = some o → Post T E O M σ H Q o → t σ H Q
def PDE (X : Cx) (E : Wish) (e : Expr) (f : Mo SV) : Prop := ∃ t, PE X e t ∧ SatE X.K E t f

/-- behind a test -/
def PostT (T : Ent) (E : Wish) (O M : List Addr) (σ : L2.St) (H : Hp) (Q : Bool → Hp → Prop) : Out Bool → Prop
  | .ok b env' => ∀ H', R T O M env' σ H' → Fr M H H' → Q b H'
  | .exc C fs => XP T E C fs
def SatT (K : PySem.W.Frag) (E : Wish) (t : TT) (f : Mo Bool) : Prop := ∀ (T : Ent) (O M : List Addr) (env : PEnv) (σ : L2.St) (H : Hp) (Q : Bool → Hp → Prop) (o : Out Bool), KT T K E → R T O M env σ H → f env = some o → PostT T E O M σ H Q o → t σ H Q
def PDT (X : Cx) (E : Wish) (e : Expr) (f : Mo Bool) : Prop := ∃ t, PT X e t ∧ SatT X.K E t f

/-- arguments: the values, owned ones among them by their slots -/
inductive Arg where
  | v (s : SV)
  | o (i : Nat)
def RepA (K : PySem.W.Frag) (O M : List Addr) (env : PEnv) (σ : L2.St) (H : Hp) (v : V) : Arg → Prop
  | .v s => RepR K O H v s
  | .o i => σ[i]? = some (some v) ∧ ∃ ds, env[i]? = some (some (.own ds))
def PostA (T : Ent) (E : Wish) (O M : List Addr) (σ : L2.St) (H : Hp) (Q : List V → Hp → Prop) : Out (List Arg) → Prop
  | .ok ds env' => ∀ vs H', R T O M env' σ H' → Fr M H H' → Paired (RepA T.K O M env' σ H') vs ds → Q vs H'
  | .exc C fs => XP T E C fs
def SatA (K : PySem.W.Frag) (E : Wish) (t : TA) (f : Mo (List Arg)) : Prop := ∀ (T : Ent) (O M : List Addr) (env : PEnv) (σ : L2.St) (H : Hp) (Q : List V → Hp → Prop) (o : Out (List Arg)), KT T K E → R T O M env σ H → f env = some o → PostA T E O M σ H Q o → t σ H Q
def PDA (X : Cx) (E : Wish) (es : List Expr) (f : Mo (List Arg)) : Prop := ∃ t, PA X es t ∧ SatA X.K E t f


end Pd
end
section
set_option Elab.async false
set_option linter.all false
set_option maxRecDepth 100000
set_option maxHeartbeats 4000000
namespace Pd
open PySem PySem.Spec PyProof.Rows L2

/-! ### composing -/
theorem bind_split {α β : Type} {m : Mo α} {k : α → Mo β} {env : PEnv} {o : Out β} (h : bindM m k env = some o) :
    (∃ C fs, m env = some (.exc C fs) ∧ o = .exc C fs) ∨ ∃ a e, m env = some (.ok a e) ∧ k a e = some o := by
  unfold bindM at h
  split at h
  · rename_i a e hm; exact .inr ⟨a, e, hm, h⟩
  · rename_i C fs hm; exact .inl ⟨C, fs, hm, (Option.some.inj h).symm⟩
  · cases h
theorem lift_split {α : Type} {x : Option α} {env : PEnv} {o : Out α} (h : liftO x env = some o) : ∃ a, x = some a ∧ o = .ok a env := by
  unfold liftO at h
  split at h
  · exact ⟨_, rfl, (Option.some.inj h).symm⟩
  · cases h

section
variable {T : Ent} {E : Wish} {O M : List Addr} {σ : L2.St} {H H1 : Hp}
theorem Post.shift {Q : VK} {o : Out SV} (p : Post T E O M σ H Q o) (f : Fr M H H1) : Post T E O M σ H1 Q o := by
  cases o with
  | ok d e => exact fun v H' r f' rp => p v H' r (f.trans f') rp
  | exc C fs => exact p
theorem PostT.shift {Q : Bool → Hp → Prop} {o : Out Bool} (p : PostT T E O M σ H Q o) (f : Fr M H H1) : PostT T E O M σ H1 Q o := by
  cases o with
  | ok d e => exact fun H' r f' => p H' r (f.trans f')
  | exc C fs => exact p
theorem PostA.shift {Q : List V → Hp → Prop} {o : Out (List Arg)} (p : PostA T E O M σ H Q o) (f : Fr M H H1) : PostA T E O M σ H1 Q o := by
  cases o with
  | ok d e => exact fun vs H' r f' rp => p vs H' r (f.trans f') rp
  | exc C fs => exact p
end

/-- an expression, then what its value is used for -/
theorem SatE.bind {K : PySem.W.Frag} {E : Wish} {t : TE} {f : Mo SV} (h : SatE K E t f) {β : Type} {k : SV → Mo β} {T : Ent} {O M : List Addr} {env : PEnv} {σ : L2.St} {H : Hp} {Q : VK} {o : Out β}
    (hK : KT T K E) (r : R T O M env σ H) (e : bindM f k env = some o)
    (hx : ∀ C fs, o = .exc C fs → XP T E C fs)
    (hk : ∀ x e1 v H', k x e1 = some o → R T O M e1 σ H' → Fr M H H' → RepR T.K O H' v x → Q v H') : t σ H Q := by
  rcases bind_split e with ⟨C, fs, h1, rfl⟩ | ⟨a, e1, h1, h2⟩
  · exact h T O M env σ H Q (.exc C fs) hK r h1 (hx C fs rfl)
  · exact h T O M env σ H Q (.ok a e1) hK r h1 fun v H' r' f' rp => hk a e1 v H' h2 r' f' rp
theorem SatT.bind {K : PySem.W.Frag} {E : Wish} {t : TT} {f : Mo Bool} (h : SatT K E t f) {β : Type} {k : Bool → Mo β} {T : Ent} {O M : List Addr} {env : PEnv} {σ : L2.St} {H : Hp} {Q : Bool → Hp → Prop} {o : Out β}
    (hK : KT T K E) (r : R T O M env σ H) (e : bindM f k env = some o)
    (hx : ∀ C fs, o = .exc C fs → XP T E C fs)
    (hk : ∀ x e1 H', k x e1 = some o → R T O M e1 σ H' → Fr M H H' → Q x H') : t σ H Q := by
  rcases bind_split e with ⟨C, fs, h1, rfl⟩ | ⟨a, e1, h1, h2⟩
  · exact h T O M env σ H Q (.exc C fs) hK r h1 (hx C fs rfl)
  · exact h T O M env σ H Q (.ok a e1) hK r h1 fun H' r' f' => hk a e1 H' h2 r' f'
theorem SatA.bind {K : PySem.W.Frag} {E : Wish} {t : TA} {f : Mo (List Arg)} (h : SatA K E t f) {β : Type} {k : List Arg → Mo β} {T : Ent} {O M : List Addr} {env : PEnv} {σ : L2.St} {H : Hp} {Q : List V → Hp → Prop} {o : Out β}
    (hK : KT T K E) (r : R T O M env σ H) (e : bindM f k env = some o)
    (hx : ∀ C fs, o = .exc C fs → XP T E C fs)
    (hk : ∀ x e1 vs H', k x e1 = some o → R T O M e1 σ H' → Fr M H H' → Paired (RepA T.K O M e1 σ H') vs x → Q vs H') : t σ H Q := by
  rcases bind_split e with ⟨C, fs, h1, rfl⟩ | ⟨a, e1, h1, h2⟩
  · exact h T O M env σ H Q (.exc C fs) hK r h1 (hx C fs rfl)
  · exact h T O M env σ H Q (.ok a e1) hK r h1 fun vs H' r' f' rp => hk a e1 vs H' h2 r' f' rp
theorem Post.exc {T : Ent} {E : Wish} {O M : List Addr} {σ : L2.St} {H : Hp} {Q : VK} {o : Out SV} (p : Post T E O M σ H Q o) : ∀ C fs, o = .exc C fs → XP T E C fs := by
  intro C fs e; subst e; exact p
theorem PostT.exc {T : Ent} {E : Wish} {O M : List Addr} {σ : L2.St} {H : Hp} {Q : Bool → Hp → Prop} {o : Out Bool} (p : PostT T E O M σ H Q o) : ∀ C fs, o = .exc C fs → XP T E C fs := by
  intro C fs e; subst e; exact p
theorem PostA.exc {T : Ent} {E : Wish} {O M : List Addr} {σ : L2.St} {H : Hp} {Q : List V → Hp → Prop} {o : Out (List Arg)} (p : PostA T E O M σ H Q o) : ∀ C fs, o = .exc C fs → XP T E C fs := by
  intro C fs e; subst e; exact p

section
variable {X : Cx} {E : Wish} {pos : Pos}
/-- another way to say what it does -/
theorem PDE.say {e : Expr} {f g : Mo SV} (h : PDE X E e f) (hg : ∀ env o, g env = some o → f env = some o) : PDE X E e g := by
  obtain ⟨t, h1, h2⟩ := h
  exact ⟨t, h1, fun T O M env σ H Q o hK r e p => h2 T O M env σ H Q o hK r (hg _ _ e) p⟩

/-! ### names, constants -/
def varM (i : Nat) : Mo SV := fun env => match env[i]? with
  | some (some (.da d)) => some (.ok (.da d) env)
  | some (some (.obj C fs)) => some (.ok (.obj C fs) env)
  | _ => none
theorem pd_var (i : Nat) {x : Str} (h : PE X (.Name x pos) (tVar i)) : PDE X E (.Name x pos) (varM i) := by
  refine ⟨_, h, fun T O M env σ H Q o hK r e p => ?_⟩
  unfold varM at e
  split at e
  · rename_i d hd
    cases e
    obtain ⟨v, h1, h2⟩ := r.at_ _ _ hd
    exact ⟨v, h1, p v H r Fr.refl h2⟩
  · rename_i C fs hd
    cases e
    obtain ⟨v, h1, h2⟩ := r.at_ _ _ hd
    exact ⟨v, h1, p v H r Fr.refl h2⟩
  · cases e
theorem pd_const {e : Expr} {v : V} {d : PyData} (h : PE X e (tC v)) (hd : ∀ H, Dp X.K H v d) : PDE X E e (retM (.da d)) := by
  refine ⟨_, h, fun T O M env σ H Q o hK r e p => ?_⟩
  cases e
  exact p v H r Fr.refl (by show Dp T.K (cut O H) v d; rw [hK.eq]; exact hd _)
theorem pd_int {i j} : PDE X E (.Constant (.int i) j pos) (retM (.da (.int i))) := pd_const pe_int fun _ => .int i
theorem pd_bl {b j} : PDE X E (.Constant (.bool b) j pos) (retM (.da (.bool b))) := pd_const pe_bl fun _ => .bl b
theorem pd_non {j} : PDE X E (.Constant .none j pos) (retM (.da .none)) := pd_const pe_non fun _ => .non
theorem pd_str {x j} : PDE X E (.Constant (.str x) j pos) (retM (.da (.str x))) := pd_const pe_str fun _ => .str x

/-! ### operators -/
def Live (O : List Addr) (H : Hp) : Prop := ∀ l ∈ O, H l ≠ none
theorem Live.new {O H} (l : Live O H) {p : Addr} (h : H p = none) : p ∉ O := fun z => l p z h
/-- an operator by values -/
def OpD (X : Cx) (op : Value → Value → Sem Value) (g : SV → SV → Option SV) : Prop := ∃ r, OpR X op r ∧
  ∀ (O : List Addr) (H : Hp) (x y : V) (a b c : SV) (Q : VK), Live O H → RepR X.K O H x a → RepR X.K O H y b → g a b = some c → (∀ v H', Same H H' → RepR X.K O H' v c → Q v H') → r x y H Q
def op2M (g : SV → SV → Option SV) (fa fb : Mo SV) : Mo SV := bindM fa fun x => bindM fb fun y => liftO (g x y)
theorem pd_op2 {e a b : Expr} {op : Value → Value → Sem Value} {g : SV → SV → Option SV} {fa fb : Mo SV} (hop : OpD X op g) (ha : PDE X E a fa) (hb : PDE X E b fb)
    (mk : ∀ r ta tb, OpR X op r → PE X a ta → PE X b tb → PE X e (tOp r ta tb)) : PDE X E e (op2M g fa fb) := by
  obtain ⟨r, hr, hg⟩ := hop
  obtain ⟨ta, a1, a2⟩ := ha
  obtain ⟨tb, b1, b2⟩ := hb
  refine ⟨_, mk r ta tb hr a1 b1, fun T O M env σ H Q o hK rr ee p => ?_⟩
  refine a2.bind hK rr ee p.exc fun x e1 v H1 ek r1 f1 p1 => ?_
  refine b2.bind hK r1 ek (p.shift f1).exc fun y e2 u H2 ek2 r2 f2 p2 => ?_
  obtain ⟨c, ec, rfl⟩ := lift_split ek2
  have p1' := p1.fr f2 r2.sub
  rw [hK.eq] at p1' p2
  refine hg O H2 v u x y c Q r2.live p1' p2 ec fun w H3 s3 q3 => ?_
  exact p w H3 (r2.same s3) ((f1.trans f2).trans (Fr.of s3)) (by rw [hK.eq]; exact q3)
theorem pd_bin {a b : Expr} {op : Operator} {g fa fb} (hop : OpD X (binaryOp op) g) (ha : PDE X E a fa) (hb : PDE X E b fb) : PDE X E (.BinOp a op b pos) (op2M g fa fb) :=
  pd_op2 hop ha hb fun _ _ _ h1 h2 h3 => pe_op h1 h2 h3
theorem pd_cmp {a b : Expr} {op : CmpOp} {g fa fb} (hop : OpD X (compareOp op) g) (ha : PDE X E a fa) (hb : PDE X E b fb) (hm : behindInMarks op b = false := by first | exact nomark _ | rfl) : PDE X E (.Compare a [op] [b] pos) (op2M g fa fb) :=
  pd_op2 hop ha hb fun _ _ _ h1 h2 h3 => pe_cmpR h1 h2 h3 hm
def IxD (X : Cx) (g : SV → SV → Option SV) : Prop := ∃ r, IxR X r ∧
  ∀ (O : List Addr) (H : Hp) (x y : V) (a b c : SV) (Q : VK), Live O H → RepR X.K O H x a → RepR X.K O H y b → g a b = some c → (∀ v H', Same H H' → RepR X.K O H' v c → Q v H') → r x y H Q
theorem pd_ix {a b : Expr} {g fa fb} (hop : IxD X g) (ha : PDE X E a fa) (hb : PDE X E b fb) (hs : PlainIx b := by exact fun _ _ => rfl) : PDE X E (.Subscript a b pos) (op2M g fa fb) := by
  obtain ⟨r, hr, hg⟩ := hop
  obtain ⟨ta, a1, a2⟩ := ha
  obtain ⟨tb, b1, b2⟩ := hb
  refine ⟨_, pe_ix hr a1 b1 hs, fun T O M env σ H Q o hK rr ee p => ?_⟩
  refine a2.bind hK rr ee p.exc fun x e1 v H1 ek r1 f1 p1 => ?_
  refine b2.bind hK r1 ek (p.shift f1).exc fun y e2 u H2 ek2 r2 f2 p2 => ?_
  obtain ⟨c, ec, rfl⟩ := lift_split ek2
  have p1' := p1.fr f2 r2.sub
  rw [hK.eq] at p1' p2
  refine hg O H2 v u x y c Q r2.live p1' p2 ec fun w H3 s3 q3 => ?_
  exact p w H3 (r2.same s3) ((f1.trans f2).trans (Fr.of s3)) (by rw [hK.eq]; exact q3)

/-! ### tests -/
def asB : SV → Option Bool
  | .da (.bool b) => some b
  | _ => none
theorem asB_some {x : SV} {b : Bool} (h : asB x = some b) : x = .da (.bool b) := by
  unfold asB at h
  split at h
  · cases h; rfl
  · cases h
def boolM (f : Mo SV) : Mo Bool := bindM f fun x => liftO (asB x)
theorem boolLift {x : SV} {e1 : PEnv} {o : Out Bool} (h : liftO (asB x) e1 = some o) : ∃ b, x = .da (.bool b) ∧ o = .ok b e1 := by
  obtain ⟨c, ec, rfl⟩ := lift_split h
  exact ⟨c, asB_some ec, rfl⟩
theorem pdt_val {e : Expr} {f : Mo SV} (h : PDE X E e f) (he : ∀ whole, isTrue e X.env whole = (do let v ← whole; standAt e.pos; holding [v] (truthy v)) := by intro _; rfl) : PDT X E e (boolM f) := by
  obtain ⟨t, h1, h2⟩ := h
  refine ⟨_, pt_val h1 he, fun T O M env σ H Q o hK rr ee p => ?_⟩
  refine h2.bind (Q := fun x H1 => ∃ c, x = .bl c ∧ Q c H1) hK rr ee p.exc fun x e1 v H1 ek r1 f1 p1 => ?_
  obtain ⟨b, rfl, rfl⟩ := boolLift ek
  exact ⟨b, Dp.isBool p1, p H1 r1 f1⟩
theorem pdt_cmp {a b : Expr} {op : CmpOp} {g fa fb} (hop : OpD X (compareOp op) g) (ha : PDE X E a fa) (hb : PDE X E b fb) (hm : behindInMarks op b = false := by first | exact nomark _ | rfl) : PDT X E (.Compare a [op] [b] pos) (boolM (op2M g fa fb)) := by
  obtain ⟨r, hr, hg⟩ := hop
  obtain ⟨ta, a1, a2⟩ := ha
  obtain ⟨tb, b1, b2⟩ := hb
  refine ⟨_, pt_cmpR hr a1 b1 hm, fun T O M env σ H Q o hK rr ee p => ?_⟩
  unfold boolM op2M at ee
  rcases bind_split ee with ⟨C, fs, h1, rfl⟩ | ⟨s, e3, h1, h2⟩
  · refine a2.bind hK rr h1 (fun C' fs' e => by cases e; exact p) fun x e1 v H1 ek r1 f1 p1 => ?_
    refine b2.bind hK r1 ek (fun C' fs' e => by cases e; exact p) fun y e2 u H2 ek2 r2 f2 p2 => ?_
    obtain ⟨c, ec, z⟩ := lift_split ek2
    cases z
  · obtain ⟨bb, rfl, rfl⟩ := boolLift h2
    refine a2.bind hK rr h1 (fun C' fs' e => by cases e) fun x e1 v H1 ek r1 f1 p1 => ?_
    refine b2.bind hK r1 ek (fun C' fs' e => by cases e) fun y e2 u H2 ek2 r2 f2 p2 => ?_
    obtain ⟨c, ec, z⟩ := lift_split ek2
    cases z
    have p1' := p1.fr f2 r2.sub
    rw [hK.eq] at p1' p2
    refine hg O H2 v u x y _ _ r2.live p1' p2 ec fun w H3 s3 q3 => ?_
    exact ⟨bb, Dp.isBool q3, p H3 (r2.same s3) ((f1.trans f2).trans (Fr.of s3))⟩
def notM (f : Mo Bool) : Mo Bool := bindM f fun b => retM (!b)
def andM (f g : Mo Bool) : Mo Bool := bindM f fun b => if b = true then g else retM false
def orM (f g : Mo Bool) : Mo Bool := bindM f fun b => if b = true then retM true else g
theorem pdt_not {a : Expr} {f : Mo Bool} (h : PDT X E a f) : PDT X E (.UnaryOp .Not a pos) (notM f) := by
  obtain ⟨t, h1, h2⟩ := h
  refine ⟨_, pt_not h1, fun T O M env σ H Q o hK rr ee p => ?_⟩
  refine h2.bind (Q := fun c H1 => Q (!c) H1) hK rr ee p.exc fun x e1 H1 ek r1 f1 => ?_
  cases ek
  exact p H1 r1 f1
def PDW (X : Cx) (E : Wish) (e : Expr) (f : Mo Bool) : Prop := ∃ t, PW X e t ∧ SatT X.K E t f
theorem PDW.pdt {e : Expr} {f : Mo Bool} (h : PDW X E e f) : PDT X E e f := by
  obtain ⟨t, h1, h2⟩ := h
  exact ⟨t, h1.pt, h2⟩
theorem pdw_and1 {a : Expr} {f : Mo Bool} (h : PDT X E a f) : PDW X E (.BoolOp .And [a] pos) f := by
  obtain ⟨t, h1, h2⟩ := h
  exact ⟨t, pw_and1 h1, h2⟩
theorem pdw_or1 {a : Expr} {f : Mo Bool} (h : PDT X E a f) : PDW X E (.BoolOp .Or [a] pos) f := by
  obtain ⟨t, h1, h2⟩ := h
  exact ⟨t, pw_or1 h1, h2⟩
theorem pdw_and {a b : Expr} {rest : List Expr} {f g : Mo Bool} (h : PDT X E a f) (hb : PDW X E (.BoolOp .And (b :: rest) pos) g) : PDW X E (.BoolOp .And (a :: b :: rest) pos) (andM f g) := by
  obtain ⟨t, h1, h2⟩ := h
  obtain ⟨u, b1, b2⟩ := hb
  refine ⟨_, pw_and h1 b1, fun T O M env σ H Q o hK rr ee p => ?_⟩
  refine h2.bind (Q := fun c H1 => if c = true then u σ H1 Q else Q false H1) hK rr ee p.exc fun x e1 H1 ek r1 f1 => ?_
  cases x with
  | true => rw [if_pos rfl] at ek ⊢; exact b2 T O M e1 σ H1 Q o hK r1 ek (p.shift f1)
  | false => rw [if_neg (by decide)] at ek ⊢; cases ek; exact p H1 r1 f1
theorem pdw_or {a b : Expr} {rest : List Expr} {f g : Mo Bool} (h : PDT X E a f) (hb : PDW X E (.BoolOp .Or (b :: rest) pos) g) : PDW X E (.BoolOp .Or (a :: b :: rest) pos) (orM f g) := by
  obtain ⟨t, h1, h2⟩ := h
  obtain ⟨u, b1, b2⟩ := hb
  refine ⟨_, pw_or h1 b1, fun T O M env σ H Q o hK rr ee p => ?_⟩
  refine h2.bind (Q := fun c H1 => if c = true then Q true H1 else u σ H1 Q) hK rr ee p.exc fun x e1 H1 ek r1 f1 => ?_
  cases x with
  | true => rw [if_pos rfl] at ek ⊢; cases ek; exact p H1 r1 f1
  | false => rw [if_neg (by decide)] at ek ⊢; exact b2 T O M e1 σ H1 Q o hK r1 ek (p.shift f1)
/-! and, or, not as values -/
def ofB (f : Mo Bool) : Mo SV := bindM f fun b => retM (.da (.bool b))
def andV (f g : Mo SV) : Mo SV := bindM (boolM f) fun b => if b = true then g else retM (.da (.bool false))
def orV (f g : Mo SV) : Mo SV := bindM (boolM f) fun b => if b = true then retM (.da (.bool true)) else g
theorem boolM_split {f : Mo SV} {β : Type} {k : Bool → Mo β} : bindM (boolM f) k = bindM f fun x => bindM (liftO (asB x)) k := by
  funext env
  unfold boolM bindM
  cases f env with
  | none => rfl
  | some o => cases o <;> rfl
theorem boolK {x : SV} {e1 : PEnv} {β : Type} {k : Bool → Mo β} {o : Out β} (h : bindM (liftO (asB x)) k e1 = some o) : ∃ b, x = .da (.bool b) ∧ k b e1 = some o := by
  rcases bind_split h with ⟨C, fs, h1, rfl⟩ | ⟨a, e2, h1, h2⟩
  · obtain ⟨c, _, z⟩ := lift_split h1; cases z
  · obtain ⟨b, rfl, z⟩ := boolLift h1
    cases z
    exact ⟨_, rfl, h2⟩
theorem pd_one {op} {a : Expr} {f : Mo SV} (h : PDE X E a f) : PDE X E (.BoolOp op [a] pos) f := by
  obtain ⟨t, h1, h2⟩ := h
  exact ⟨t, pe_one h1, h2⟩
theorem pd_and {a b : Expr} {rest : List Expr} {f g : Mo SV} (h : PDE X E a f) (hb : PDE X E (.BoolOp .And (b :: rest) pos) g) : PDE X E (.BoolOp .And (a :: b :: rest) pos) (andV f g) := by
  obtain ⟨t, h1, h2⟩ := h
  obtain ⟨u, b1, b2⟩ := hb
  refine ⟨_, pe_and h1 b1, fun T O M env σ H Q o hK rr ee p => ?_⟩
  unfold andV at ee
  rw [boolM_split] at ee
  refine h2.bind (Q := fun x H1 => ∃ c, x = .bl c ∧ if c = true then u σ H1 Q else Q (.bl false) H1) hK rr ee p.exc fun x e1 v H1 ek r1 f1 p1 => ?_
  obtain ⟨c, rfl, ek2⟩ := boolK ek
  clear ek
  refine ⟨c, Dp.isBool p1, ?_⟩
  cases c with
  | true => rw [if_pos rfl] at ek2 ⊢; exact b2 T O M e1 σ H1 Q o hK r1 ek2 (p.shift f1)
  | false => rw [if_neg (by decide)] at ek2 ⊢; cases ek2; exact p _ H1 r1 f1 (.bl false)
theorem pd_or {a b : Expr} {rest : List Expr} {f g : Mo SV} (h : PDE X E a f) (hb : PDE X E (.BoolOp .Or (b :: rest) pos) g) : PDE X E (.BoolOp .Or (a :: b :: rest) pos) (orV f g) := by
  obtain ⟨t, h1, h2⟩ := h
  obtain ⟨u, b1, b2⟩ := hb
  refine ⟨_, pe_or h1 b1, fun T O M env σ H Q o hK rr ee p => ?_⟩
  unfold orV at ee
  rw [boolM_split] at ee
  refine h2.bind (Q := fun x H1 => ∃ c, x = .bl c ∧ if c = true then Q (.bl true) H1 else u σ H1 Q) hK rr ee p.exc fun x e1 v H1 ek r1 f1 p1 => ?_
  obtain ⟨c, rfl, ek2⟩ := boolK ek
  clear ek
  refine ⟨c, Dp.isBool p1, ?_⟩
  cases c with
  | true => rw [if_pos rfl] at ek2 ⊢; cases ek2; exact p _ H1 r1 f1 (.bl true)
  | false => rw [if_neg (by decide)] at ek2 ⊢; exact b2 T O M e1 σ H1 Q o hK r1 ek2 (p.shift f1)
def notV (f : Mo SV) : Mo SV := bindM (boolM f) fun b => retM (.da (.bool !b))
theorem pd_not {a : Expr} {f : Mo SV} (h : PDE X E a f) : PDE X E (.UnaryOp .Not a pos) (notV f) := by
  obtain ⟨t, h1, h2⟩ := h
  refine ⟨_, pe_not h1, fun T O M env σ H Q o hK rr ee p => ?_⟩
  unfold notV at ee
  rw [boolM_split] at ee
  refine h2.bind (Q := fun x H1 => ∃ c, x = .bl c ∧ Q (.bl (!c)) H1) hK rr ee p.exc fun x e1 v H1 ek r1 f1 p1 => ?_
  obtain ⟨c, rfl, ek2⟩ := boolK ek
  clear ek
  cases ek2
  exact ⟨c, Dp.isBool p1, p _ H1 r1 f1 (.bl _)⟩
def ifM {α : Type} (c : Mo Bool) (f g : Mo α) : Mo α := bindM c fun b => if b = true then f else g
theorem pd_if {c a b : Expr} {t : Mo Bool} {f g : Mo SV} (hc : PDT X E c t) (ha : PDE X E a f) (hb : PDE X E b g) : PDE X E (.IfExp c a b pos) (ifM t f g) := by
  obtain ⟨tc, c1, c2⟩ := hc
  obtain ⟨ta, a1, a2⟩ := ha
  obtain ⟨tb, b1, b2⟩ := hb
  refine ⟨_, pe_ifExp c1 a1 b1, fun T O M env σ H Q o hK rr ee p => ?_⟩
  refine c2.bind (Q := fun c H1 => if c = true then ta σ H1 Q else tb σ H1 Q) hK rr ee p.exc fun x e1 H1 ek r1 f1 => ?_
  cases x with
  | true => rw [if_pos rfl] at ek ⊢; exact a2 T O M e1 σ H1 Q o hK r1 ek (p.shift f1)
  | false => rw [if_neg (by decide)] at ek ⊢; exact b2 T O M e1 σ H1 Q o hK r1 ek (p.shift f1)
/-! a chain of two comparisons -/
def chainM (g g' : SV → SV → Option SV) (fa fb fc : Mo SV) : Mo SV := bindM fa fun x => bindM fb fun y => bindM (boolM (liftO (g x y))) fun b => if b = true then bindM fc fun z => liftO (g' y z) else retM (.da (.bool false))
end
end Pd
end
section
set_option Elab.async false
set_option linter.all false
set_option maxRecDepth 100000
set_option maxHeartbeats 4000000
namespace Pd
open PySem PySem.Spec PyProof.Rows L2

/-! ### one reading for all contexts -/
def tOf (K : PySem.W.Frag) (E : Wish) (f : Mo SV) : TE := fun σ H Q => ∃ T O M env o, KT T K E ∧ R T O M env σ H ∧ f env = some o ∧ Post T E O M σ H Q o
def tOfT (K : PySem.W.Frag) (E : Wish) (f : Mo Bool) : TT := fun σ H Q => ∃ T O M env o, KT T K E ∧ R T O M env σ H ∧ f env = some o ∧ PostT T E O M σ H Q o
section
variable {X : Cx} {E : Wish} {pos : Pos}
theorem PDE.uni {e : Expr} {f : Mo SV} (h : PDE X E e f) : PE X e (tOf X.K E f) := by
  obtain ⟨t, h1, h2⟩ := h
  exact ⟨fun pins s σ H Q I ⟨T, O, M, env, o, hK, r, e, p⟩ => h1.run pins s σ H Q I (h2 T O M env σ H Q o hK r e p)⟩
theorem PDT.uni {e : Expr} {f : Mo Bool} (h : PDT X E e f) : PT X e (tOfT X.K E f) := by
  obtain ⟨t, h1, h2⟩ := h
  exact ⟨fun pins s σ H Q I ⟨T, O, M, env, o, hK, r, e, p⟩ => h1.run pins s σ H Q I (h2 T O M env σ H Q o hK r e p)⟩
theorem tOf_sat {K : PySem.W.Frag} {f : Mo SV} : SatE K E (tOf K E f) f := fun T O M env σ H Q o hK r e p => ⟨T, O, M, env, o, hK, r, e, p⟩
theorem tOfT_sat {K : PySem.W.Frag} {f : Mo Bool} : SatT K E (tOfT K E f) f := fun T O M env σ H Q o hK r e p => ⟨T, O, M, env, o, hK, r, e, p⟩

/-! ### a chain -/
theorem pd_chain {a b c : Expr} {op op' : CmpOp} {g g' : SV → SV → Option SV} {fa fb fc : Mo SV} (ho : OpD X (compareOp op) g) (ho' : OpD X (compareOp op') g') (ha : PDE X E a fa) (hb : PDE X E b fb) (hc : PDE X E c fc)
    (hm : lastMarks [op, op'] [b, c] = false := by with_unfolding_all rfl) : PDE X E (.Compare a [op, op'] [b, c] pos) (chainM g g' fa fb fc) := by
  obtain ⟨r, hr, hg⟩ := ho
  obtain ⟨r', hr', hg'⟩ := ho'
  obtain ⟨ta, a1, a2⟩ := ha
  obtain ⟨tb, b1, b2⟩ := hb
  obtain ⟨tc, c1, c2⟩ := hc
  refine ⟨_, pe_chain hr hr' a1 b1 c1 hm, fun T O M env σ H Q o hK rr ee p => ?_⟩
  refine a2.bind hK rr ee p.exc fun x e1 v H1 ek r1 f1 p1 => ?_
  refine b2.bind hK r1 ek (p.shift f1).exc fun y e2 u H2 ek2 r2 f2 p2 => ?_
  rw [boolM_split] at ek2
  rcases bind_split ek2 with ⟨C, fs, h1, rfl⟩ | ⟨d, e3, h1, h2⟩
  · obtain ⟨_, _, z⟩ := lift_split h1; cases z
  obtain ⟨d', ed, z⟩ := lift_split h1
  cases z
  obtain ⟨k, rfl, ek3⟩ := boolK h2
  have p1' := p1.fr f2 r2.sub
  rw [hK.eq] at p1' p2
  refine hg O H2 v u x y _ _ r2.live p1' p2 ed fun z H3 s3 q3 => ?_
  refine ⟨k, Dp.isBool q3, ?_⟩
  have f3 : Fr M H H3 := (f1.trans f2).trans (Fr.of s3)
  cases k with
  | false => rw [if_neg (by decide)] at ek3 ⊢; cases ek3; exact p _ H3 (r2.same s3) f3 (.bl false)
  | true =>
    rw [if_pos rfl] at ek3 ⊢
    refine c2.bind hK (r2.same s3) ek3 (p.shift f3).exc fun w e5 w' H4 ek4 r4 f4 p4 => ?_
    obtain ⟨c', ec', rfl⟩ := lift_split ek4
    have p2' : RepR X.K O H4 u y := by
      have q := RepR.fr (M := M) p2 (Fr.of s3) r4.sub
      exact q.fr f4 r4.sub
    rw [hK.eq] at p4
    refine hg' O H4 u w' y w c' Q r4.live p2' p4 ec' fun z' H5 s5 q5 => ?_
    exact p z' H5 (r4.same s5) ((f3.trans f4).trans (Fr.of s5)) (by rw [hK.eq]; exact q5)
theorem pdt_chain {a b c : Expr} {op op' : CmpOp} {g g' : SV → SV → Option SV} {fa fb fc : Mo SV} (ho : OpD X (compareOp op) g) (ho' : OpD X (compareOp op') g') (ha : PDE X E a fa) (hb : PDE X E b fb) (hc : PDE X E c fc)
    (hm : lastMarks [op, op'] [b, c] = false := by with_unfolding_all rfl) : PDT X E (.Compare a [op, op'] [b, c] pos) (boolM (chainM g g' fa fb fc)) := by
  obtain ⟨r, hr, hg⟩ := ho
  obtain ⟨r', hr', hg'⟩ := ho'
  obtain ⟨t, ht, hs⟩ := pd_chain (pos := pos) (E := E) (op := op) (op' := op') (X := X) ⟨r, hr, hg⟩ ⟨r', hr', hg'⟩ ha hb hc hm
  obtain ⟨ta, a1, a2⟩ := ha
  obtain ⟨tb, b1, b2⟩ := hb
  obtain ⟨tc, c1, c2⟩ := hc
  refine ⟨_, pt_chain hr hr' a1 b1 c1 hm, fun T O M env σ H Q o hK rr ee p => ?_⟩
  -- the same reading, with a bool's end
  have key : ∀ (Q2 : VK) (o2 : Out SV), chainM g g' fa fb fc env = some o2 → Post T E O M σ H Q2 o2 → tChain r r' ta tb tc σ H Q2 := by
    intro Q2 o2 ee p
    refine a2.bind hK rr ee p.exc fun x e1 v H1 ek r1 f1 p1 => ?_
    refine b2.bind hK r1 ek (p.shift f1).exc fun y e2 u H2 ek2 r2 f2 p2 => ?_
    rw [boolM_split] at ek2
    rcases bind_split ek2 with ⟨C, fs, h1, rfl⟩ | ⟨d, e3, h1, h2⟩
    · obtain ⟨_, _, z⟩ := lift_split h1; cases z
    obtain ⟨d', ed, z⟩ := lift_split h1
    cases z
    obtain ⟨k, rfl, ek3⟩ := boolK h2
    have p1' := p1.fr f2 r2.sub
    rw [hK.eq] at p1' p2
    refine hg O H2 v u x y _ _ r2.live p1' p2 ed fun z H3 s3 q3 => ?_
    refine ⟨k, Dp.isBool q3, ?_⟩
    have f3 : Fr M H H3 := (f1.trans f2).trans (Fr.of s3)
    cases k with
    | false => rw [if_neg (by decide)] at ek3 ⊢; cases ek3; exact p _ H3 (r2.same s3) f3 (.bl false)
    | true =>
      rw [if_pos rfl] at ek3 ⊢
      refine c2.bind hK (r2.same s3) ek3 (p.shift f3).exc fun w e5 w' H4 ek4 r4 f4 p4 => ?_
      obtain ⟨c', ec', rfl⟩ := lift_split ek4
      have p2' : RepR X.K O H4 u y := by
        have q := RepR.fr (M := M) p2 (Fr.of s3) r4.sub
        exact q.fr f4 r4.sub
      rw [hK.eq] at p4
      refine hg' O H4 u w' y w c' Q2 r4.live p2' p4 ec' fun z' H5 s5 q5 => ?_
      exact p z' H5 (r4.same s5) ((f3.trans f4).trans (Fr.of s5)) (by rw [hK.eq]; exact q5)
  unfold boolM at ee
  rcases bind_split ee with ⟨C, fs, h1, rfl⟩ | ⟨s, e3, h1, h2⟩
  · exact key _ _ h1 p
  · obtain ⟨b', rfl, rfl⟩ := boolLift h2
    exact key _ _ h1 fun v H' r' f' rp => ⟨b', Dp.isBool rp, p H' r' f'⟩

/-! ### arguments -/
theorem pda_nil : PDA X E [] (retM []) := ⟨_, pa_nil, fun T O M env σ H Q o hK r e p => by
  cases e
  exact p [] H r Fr.refl .nil⟩
def consM (f : Mo SV) (g : Mo (List Arg)) : Mo (List Arg) := bindM f fun x => bindM g fun xs => retM (.v x :: xs)
theorem pda_cons {e : Expr} {es : List Expr} {f : Mo SV} {g : Mo (List Arg)} (h : PDE X E e f) (hr : PDA X E es g) (hs : starEach (e :: es) X.env = (false, eval e X.env) :: starEach es X.env := by rfl) : PDA X E (e :: es) (consM f g) := by
  obtain ⟨t, h1, h2⟩ := h
  obtain ⟨u, u1, u2⟩ := hr
  refine ⟨_, pa_cons h1 u1 hs, fun T O M env σ H Q o hK rr ee p => ?_⟩
  refine h2.bind (Q := fun x H1 => u σ H1 fun xs H2 => Q (x :: xs) H2) hK rr ee p.exc fun x e1 v H1 ek r1 f1 p1 => ?_
  refine u2.bind (Q := fun xs H2 => Q (v :: xs) H2) hK r1 ek (p.shift f1).exc fun y e2 us H2 ek2 r2 f2 p2 => ?_
  cases ek2
  exact p _ H2 r2 (f1.trans f2) (.cons (show RepR T.K O H2 v x from p1.fr f2 r2.sub) p2)
/-- the owned list of a slot handed on -/
def isOwn (env : PEnv) (i : Nat) : Bool := match env[i]? with
  | some (some (.own _)) => true
  | _ => false
theorem isOwn_some {env : PEnv} {i : Nat} (h : isOwn env i = true) : ∃ ds, env[i]? = some (some (.own ds)) := by
  unfold isOwn at h
  split at h
  · exact ⟨_, by assumption⟩
  · cases h
def chkM (i : Nat) : Mo Unit := fun env => if isOwn env i = true then some (.ok () env) else none
def ownM (i : Nat) (g : Mo (List Arg)) : Mo (List Arg) := fun env => if isOwn env i = true then bindM g (fun xs => bindM (chkM i) fun _ => retM (.o i :: xs)) env else none
theorem pda_own (i : Nat) {x : Str} {es : List Expr} {g : Mo (List Arg)} (h : PE X (.Name x pos) (tVar i)) (hr : PDA X E es g) (hs : starEach (.Name x pos :: es) X.env = (false, eval (.Name x pos) X.env) :: starEach es X.env := by rfl) :
    PDA X E (.Name x pos :: es) (ownM i g) := by
  obtain ⟨u, u1, u2⟩ := hr
  refine ⟨_, pa_cons h u1 hs, fun T O M env σ H Q o hK rr ee p => ?_⟩
  unfold ownM at ee
  split at ee
  · rename_i hi
    obtain ⟨ds, hd⟩ := isOwn_some hi
    obtain ⟨v, hv, _⟩ := rr.at_ _ _ hd
    refine ⟨v, hv, ?_⟩
    refine u2.bind (Q := fun xs H2 => Q (v :: xs) H2) hK rr ee p.exc fun y e2 us H2 ek2 r2 f2 p2 => ?_
    rcases bind_split ek2 with ⟨C, fs, h1, rfl⟩ | ⟨_, e3, h1, h2⟩
    · unfold chkM at h1; split at h1 <;> cases h1
    · unfold chkM at h1
      split at h1
      · cases h1
        rename_i hi2
        cases h2
        exact p _ H2 r2 f2 (.cons ⟨hv, isOwn_some hi2⟩ p2)
      · cases h1
  · cases ee

/-! ### displays -/
def datas : List Arg → Option (List PyData)
  | [] => some []
  | .v (.da d) :: r => (datas r).map (d :: ·)
  | _ :: _ => none
theorem datas_rep {K : PySem.W.Frag} {O M : List Addr} {env : PEnv} {σ : L2.St} {H : Hp} : ∀ {vs : List V} {as : List Arg} {ds : List PyData}, Paired (RepA K O M env σ H) vs as → datas as = some ds → DpAll K (cut O H) vs ds
  | _, _, _, .nil, e => by cases e; exact .nil
  | _, .v (.da d) :: r, ds, .cons h t, e => by
    unfold datas at e
    cases q : datas r with
    | none => rw [q] at e; cases e
    | some es => rw [q] at e; cases e; exact .cons h (datas_rep t q)
  | _, .v (.obj _ _) :: _, _, .cons _ _, e => by cases e
  | _, .v (.own _) :: _, _, .cons _ _, e => by cases e
  | _, .v (.dic _) :: _, _, .cons _ _, e => by cases e
  | _, .o _ :: _, _, .cons _ _, e => by cases e
def tupM (f : Mo (List Arg)) : Mo SV := bindM f fun as => liftO ((datas as).bind fun ds => if ds.length ≤ 1000 then some (.da (.tuple ds)) else none)
def lstM (f : Mo (List Arg)) : Mo SV := bindM f fun as => liftO ((datas as).bind fun ds => if ds.length ≤ 1000 then some (.da (.list ds)) else none)
theorem le1000 {n : Nat} (h : n ≤ 1000) : n ≤ sizeLine := Nat.le_of_lt (small1000 h)
theorem rep_tup {K : PySem.W.Frag} {O : List Addr} {H : Hp} {xs : List V} {ds : List PyData} {p : Addr} (hp : H p = none) (hO : p ∉ O) (h : DpAll K (cut O H) xs ds) : RepR K O (upd H p (.tup xs)) (.ref p) (.da (.tuple ds)) := by
  refine Dp.tup (.inl (.inl (cut_upd hO))) (DpAll.mono ?_ _ _ h)
  exact cut_same (fun b o e _ => same_upd hp b o e) fun _ _ _ z => z
theorem rep_lst {K : PySem.W.Frag} {O : List Addr} {H : Hp} {xs : List V} {ds : List PyData} {p : Addr} (hp : H p = none) (hO : p ∉ O) (h : DpAll K (cut O H) xs ds) : RepR K O (upd H p (.lst xs)) (.ref p) (.da (.list ds)) := by
  refine Dp.lst (.inl (.inl (cut_upd hO))) (DpAll.mono ?_ _ _ h)
  exact cut_same (fun b o e _ => same_upd hp b o e) fun _ _ _ z => z
theorem disp_lift {as : List Arg} {mk : List PyData → SV} {e2 : PEnv} {o : Out SV} (h : liftO ((datas as).bind fun ds => if ds.length ≤ 1000 then some (mk ds) else none) e2 = some o) : ∃ ds, datas as = some ds ∧ ds.length ≤ 1000 ∧ o = .ok (mk ds) e2 := by
  obtain ⟨a, ea, rfl⟩ := lift_split h
  cases q : datas as with
  | none => rw [q] at ea; cases ea
  | some ds =>
    rw [q] at ea
    simp only [Option.bind_some] at ea
    split at ea
    · cases ea; exact ⟨ds, rfl, by assumption, rfl⟩
    · cases ea
theorem pd_tup {es : List Expr} {x1} {f : Mo (List Arg)} (h : PDA X E es f) : PDE X E (.Tuple es x1 pos) (tupM f) := by
  obtain ⟨t, h1, h2⟩ := h
  refine ⟨_, pe_tup h1, fun T O M env σ H Q o hK rr ee p => ?_⟩
  refine h2.bind (Q := fun xs H1 => xs.length ≤ sizeLine ∧ ∀ p, H1 p = none → Q (.ref p) (upd H1 p (.tup xs))) hK rr ee p.exc fun y e2 us H2 ek2 r2 f2 p2 => ?_
  obtain ⟨ds, hd, hl, rfl⟩ := disp_lift (mk := fun ds => .da (.tuple ds)) ek2
  have hr := datas_rep p2 hd
  refine ⟨le1000 (by rw [DpAll.length hr]; exact hl), fun a ha => ?_⟩
  exact p _ _ (r2.same (same_upd ha)) (f2.trans (Fr.of (same_upd ha))) (rep_tup ha (r2.new ha) hr)
theorem pd_lst {es : List Expr} {f : Mo (List Arg)} (h : PDA X E es f) : PDE X E (.List es pos) (lstM f) := by
  obtain ⟨t, h1, h2⟩ := h
  refine ⟨_, pe_lst h1, fun T O M env σ H Q o hK rr ee p => ?_⟩
  refine h2.bind (Q := fun xs H1 => xs.length ≤ sizeLine ∧ ∀ p, H1 p = none → Q (.ref p) (upd H1 p (.lst xs))) hK rr ee p.exc fun y e2 us H2 ek2 r2 f2 p2 => ?_
  obtain ⟨ds, hd, hl, rfl⟩ := disp_lift (mk := fun ds => .da (.list ds)) ek2
  have hr := datas_rep p2 hd
  refine ⟨le1000 (by rw [DpAll.length hr]; exact hl), fun a ha => ?_⟩
  exact p _ _ (r2.same (same_upd ha)) (f2.trans (Fr.of (same_upd ha))) (rep_lst ha (r2.new ha) hr)

/-! ### built-in calls -/
/-- a call of a built-in by values -/
def CallD (X : Cx) (f : Value) (g : List SV → Option SV) : Prop := ∃ r, CallR X f r ∧
  ∀ (O : List Addr) (H : Hp) (xs : List V) (as : List SV) (c : SV) (Q : VK), Live O H → Paired (RepR X.K O H) xs as → g as = some c → (∀ v H', Same H H' → RepR X.K O H' v c → Q v H') → r xs H Q
def vals : List Arg → Option (List SV)
  | [] => some []
  | .v s :: r => (vals r).map (s :: ·)
  | .o _ :: _ => none
theorem vals_rep {K : PySem.W.Frag} {O M : List Addr} {env : PEnv} {σ : L2.St} {H : Hp} : ∀ {vs : List V} {as : List Arg} {ds : List SV}, Paired (RepA K O M env σ H) vs as → vals as = some ds → Paired (RepR K O H) vs ds
  | _, _, _, .nil, e => by cases e; exact .nil
  | _, .v s :: r, ds, .cons h t, e => by
    unfold vals at e
    cases q : vals r with
    | none => rw [q] at e; cases e
    | some es => rw [q] at e; cases e; exact .cons h (vals_rep t q)
  | _, .o _ :: _, _, .cons _ _, e => by cases e
def bltM (g : List SV → Option SV) (f : Mo (List Arg)) : Mo SV := bindM f fun as => liftO ((vals as).bind g)
theorem pd_blt {e : Expr} {es : List Expr} {fv : Value} {g : List SV → Option SV} {f : Mo (List Arg)} (hc : CallD X fv g) (h : PDA X E es f)
    (mk : ∀ r t, CallR X fv r → PA X es t → PE X e (tCB r t)) : PDE X E e (bltM g f) := by
  obtain ⟨r, hr, hg⟩ := hc
  obtain ⟨t, h1, h2⟩ := h
  refine ⟨_, mk r t hr h1, fun T O M env σ H Q o hK rr ee p => ?_⟩
  refine h2.bind (Q := fun vs H1 => r vs H1 Q) hK rr ee p.exc fun y e2 us H2 ek2 r2 f2 p2 => ?_
  obtain ⟨c, ec, rfl⟩ := lift_split ek2
  cases q : vals y with
  | none => rw [q] at ec; cases ec
  | some svs =>
    rw [q] at ec
    have hv := vals_rep p2 q
    rw [hK.eq] at hv
    refine hg O H2 us svs c Q r2.live hv ec fun w H3 s3 q3 => ?_
    exact p w H3 (r2.same s3) (f2.trans (Fr.of s3)) (by rw [hK.eq]; exact q3)
theorem pd_callB {x : Str} {id : String} {e : Expr} {es : List Expr} {p : Pos} {g : List SV → Option SV} {f : Mo (List Arg)} (hc : CallD X (.builtin id) g) (hg : Gl X x) (hm : X.mg x = none) (hv : bootBuiltins x = some (.builtin id)) (h : PDA X E (e :: es) f)
    (hn : x ≠ "__name__" := by decide) (hdb : (x == ("__debug__" : Str)) = false := by decide)
    (he : starEach (e :: es) X.env = (false, eval e X.env) :: starEach es X.env := by rfl) (hpl : (backTo pos (starEach es X.env)).any (·.1) = false := by rfl) : PDE X E (.Call (.Name x p) (e :: es) [] pos) (bltM g f) :=
  pd_blt hc h fun r t h1 h2 => pe_callB h1 hg hm hv h2 hn hdb he hpl
theorem pd_callT {x : Str} {id : String} {e : Expr} {es : List Expr} {p : Pos} {g : List SV → Option SV} {f : Mo (List Arg)} (hc : CallD X (.type id) g) (hg : Gl X x) (hm : X.mg x = none) (hv : bootBuiltins x = some (.type id)) (h : PDA X E (e :: es) f)
    (hn : x ≠ "__name__" := by decide) (hdb : (x == ("__debug__" : Str)) = false := by decide)
    (he : starEach (e :: es) X.env = (false, eval e X.env) :: starEach es X.env := by rfl) (hpl : (backTo pos (starEach es X.env)).any (·.1) = false := by rfl) : PDE X E (.Call (.Name x p) (e :: es) [] pos) (bltM g f) :=
  pd_blt hc h fun r t h1 h2 => pe_callTy h1 hg hm hv h2 hn hdb he hpl
end

/-! ### own defs -/
inductive Res where
  | ret (d : SV) (out : List PyData)
  | exc (C : Addr) (fs : List (Str × PyData))
/-- the owned lists among the arguments: places, addresses -/
def ownPar : Nat → List V → List SV → List (Nat × Addr)
  | i, .ref l :: vs, .own _ :: svs => (i, l) :: ownPar (i + 1) vs svs
  | i, _ :: vs, _ :: svs => ownPar (i + 1) vs svs
  | _, _, _ => []
def ownAt : Nat → List SV → List Nat
  | i, .own _ :: svs => i :: ownAt (i + 1) svs
  | i, _ :: svs => ownAt (i + 1) svs
  | _, [] => []
def spF (K : PySem.W.Frag) (tbs : List (Addr × Str)) (F : List SV → Option Res) : Sp := fun vs H Q E => ∃ (O P : List Addr) (svs : List SV) (res : Res), Live O H ∧ (∀ l ∈ P, l ∈ O) ∧ P = (ownPar 0 vs svs).map (·.2) ∧ P.length ≤ 1 ∧
  LamX.Tabs tbs H ∧ (∀ p ∈ tbs, p.1 ∈ O) ∧ Paired (RepS K O P H) vs svs ∧ F svs = some res ∧ match res with
  | .ret d out => ∀ v H', Fr (P ++ tbs.map (·.1)) H H' → LamX.Tabs tbs H' → (∀ l ∈ P, ∃ vs', H' l = some (.lst vs') ∧ DpAll K (cut O H') vs' out) → RepR K O H' v d → Q v H'
  | .exc C fs => ∀ od H', Fr (P ++ tbs.map (·.1)) H H' → LamX.Tabs tbs H' → RepX K O H' fs od → E (.ref C) od H'
/-- a def that is known -/
structure FnB (P : Program) (w : World) (K : PySem.W.Frag) (mg : Str → Option Value) (base : Heap) (tbs : List (Addr × Str)) (x : Str) (k n : Nat) (F : List SV → Option Res) : Prop where
  ex : ∃ (f : Addr) (fd : FuncData) (ps : List Str), mg x = some (.ref f) ∧ PySem.W.keepIn K (.ref f) = true ∧ Binds K fd ps [] ∧ ps.length = n ∧ FnOk P w K mg base (L2.CX P w) k f fd ps (spF K tbs F)
/-- the arguments as the callee sees them -/
def svOf (env : PEnv) : Arg → Option SV
  | .v s => match s with
    | .own _ => none
    | .dic _ => none
    | s => some s
  | .o i => match env[i]? with
    | some (some (.own ds)) => some (.own ds)
    | _ => none
def svsOf (env : PEnv) : List Arg → Option (List SV)
  | [] => some []
  | a :: r => match svOf env a, svsOf env r with
    | some s, some ss => some (s :: ss)
    | _, _ => none
def ownSlots : List Arg → List Nat
  | [] => []
  | .o i :: r => i :: ownSlots r
  | .v _ :: r => ownSlots r
def setOwn (env : PEnv) (out : List PyData) : List Nat → PEnv
  | [] => env
  | i :: _ => env.set i (some (.own out))
def callM (F : List SV → Option Res) (as : List Arg) : Mo SV := fun env => match ownSlots as with
  | _ :: _ :: _ => none
  | is => match svsOf env as with
    | some svs => match F svs with
      | some (.ret (.own _) _) => none
      | some (.ret d out) => some (.ok d (setOwn env out is))
      | some (.exc C fs) => some (.exc C fs)
      | none => none
    | none => none
end Pd
end
section
set_option Elab.async false
set_option linter.all false
set_option maxRecDepth 100000
set_option maxHeartbeats 4000000
namespace Pd
open PySem PySem.Spec PyProof.Rows L2

section
variable {T : Ent} {O M : List Addr} {env : PEnv} {σ : L2.St} {H H' : Hp}
theorem tab_some {tbs : List (Addr × Str)} {b : Addr} (t : LamX.Tabs tbs H) (h : b ∈ tbs.map (·.1)) : ∃ ps, H b = some (.tbl ps) := by
  obtain ⟨p, hp, rfl⟩ := List.mem_map.mp h
  obtain ⟨ps, h1, _⟩ := t p hp
  exact ⟨ps, h1⟩
/-- the tables of code objects have grown -/
theorem R.tabd (r : R T O M env σ H) (f : Fr (T.tbs.map (·.1)) H H') (tb : LamX.Tabs T.tbs H') : R T O M env σ H' := by
  have fM : Fr M H H' := fun b o h n => f b o h fun z => by
    obtain ⟨q, hq, rfl⟩ := List.mem_map.mp z
    exact n (r.tin q hq)
  have ec : Same (Pd.cut O H) (Pd.cut O H') := fM.cut r.sub
  refine ⟨r.len, fun j sv h => ?_, r.apart, r.apartD, fun b hb z => ?_, r.sub, r.ent, r.mine, r.frT fM, r.pars, tb, r.tin⟩
  · obtain ⟨v, h1, h2⟩ := r.at_ _ _ h
    refine ⟨v, h1, ?_⟩
    cases sv with
    | da d => exact RepR.mono (sv := .da d) ec h2
    | obj C fs => exact RepR.mono (sv := .obj C fs) ec h2
    | own es =>
      obtain ⟨l2, vs2, q1, q2, q3, q4⟩ := h2
      refine ⟨l2, vs2, q1, q2, f _ _ q3 fun z => ?_, DpAll.mono ec _ _ q4⟩
      obtain ⟨ps, e⟩ := tab_some r.tabs z
      rw [q3] at e; cases e
    | dic es =>
      obtain ⟨l2, xs, w, q1, q2, q3, q4⟩ := h2
      refine ⟨l2, xs, w, q1, q2, f _ _ q3 fun z => ?_, q4.mono ec⟩
      obtain ⟨ps, e⟩ := tab_some r.tabs z
      rw [q3] at e; cases e
  · by_cases e : b ∈ T.tbs.map (·.1)
    · obtain ⟨ps, e⟩ := tab_some tb e
      rw [e] at z; cases z
    · cases q : H b with
      | none => exact r.live b hb q
      | some o => rw [f b o q e] at z; cases z
/-- an owned list has another content, the tables have grown -/
theorem R.setOwnT {i : Nat} {l : Addr} {ds out : List PyData} {vs' : List V} (r : R T O M env σ H) (hd : env[i]? = some (some (.own ds))) (hσ : σ[i]? = some (some (.ref l))) (f : Fr (l :: T.tbs.map (·.1)) H H')
    (hl : H' l = some (.lst vs')) (hv : DpAll T.K (Pd.cut O H') vs' out) (tb : LamX.Tabs T.tbs H') : R T O M (env.set i (some (.own out))) σ H' := by
  have hlt : i < env.length := (List.getElem?_eq_some_iff.mp hd).1
  have hlM : l ∈ M := by
    obtain ⟨v, h1, h2⟩ := r.at_ _ _ hd
    rw [hσ] at h1; cases h1
    obtain ⟨l', vs, q1, q2, _⟩ := h2
    cases q1; exact q2
  have fM : Fr M H H' := fun b o h n => f b o h fun z => by
    rcases List.mem_cons.mp z with e | z
    · exact n (by rw [e]; exact hlM)
    · obtain ⟨q, hq, rfl⟩ := List.mem_map.mp z
      exact n (r.tin q hq)
  have ec : Same (Pd.cut O H) (Pd.cut O H') := fM.cut r.sub
  have hlst : ∃ vs, H l = some (.lst vs) := by
    obtain ⟨v, h1, h2⟩ := r.at_ _ _ hd
    rw [hσ] at h1; cases h1
    obtain ⟨l', vs, q1, _, q3, _⟩ := h2
    cases q1; exact ⟨vs, q3⟩
  have dback : ∀ (j : Nat) (es : List (PyData × PyData)), (env.set i (some (SV.own out)))[j]? = some (some (.dic es)) → env[j]? = some (some (.dic es)) := fun j es h => by
    by_cases hj : i = j
    · subst hj; rw [List.getElem?_set_self hlt] at h; cases h
    · rw [List.getElem?_set_ne hj] at h; exact h
  refine ⟨by rw [List.length_set]; exact r.len, fun j sv h => ?_, fun j k a ds1 ds2 h1 h2 h3 h4 => ?_, fun j k a ds1 ds2 h1 h2 h3 h4 => r.apartD j k a ds1 ds2 (dback j _ h1) (dback k _ h2) h3 h4, fun b hb z => ?_, r.sub, r.ent, r.mine, r.frT fM, fun p hp => ?_, tb, r.tin⟩
  · by_cases hj : i = j
    · subst hj
      rw [List.getElem?_set_self hlt] at h
      cases h
      exact ⟨_, hσ, l, vs', rfl, hlM, hl, hv⟩
    · rw [List.getElem?_set_ne hj] at h
      obtain ⟨v, h1, h2⟩ := r.at_ _ _ h
      refine ⟨v, h1, ?_⟩
      cases sv with
      | da d => exact RepR.mono (sv := .da d) ec h2
      | obj C fs => exact RepR.mono (sv := .obj C fs) ec h2
      | own es =>
        obtain ⟨l2, vs2, q1, q2, q3, q4⟩ := h2
        refine ⟨l2, vs2, q1, q2, f _ _ q3 fun z => ?_, DpAll.mono ec _ _ q4⟩
        rcases List.mem_cons.mp z with e | z
        · subst e q1
          exact hj (r.apart i j l2 ds es hd h hσ h1)
        · obtain ⟨ps, e⟩ := tab_some r.tabs z
          rw [q3] at e; cases e
      | dic es =>
        obtain ⟨l2, xs, w, q1, q2, q3, q4⟩ := h2
        refine ⟨l2, xs, w, q1, q2, f _ _ q3 fun z => ?_, q4.mono ec⟩
        rcases List.mem_cons.mp z with e | z
        · obtain ⟨vs, hv2⟩ := hlst
          rw [e, hv2] at q3; cases q3
        · obtain ⟨ps, e⟩ := tab_some r.tabs z
          rw [q3] at e; cases e
  · have o1 : ∃ e, env[j]? = some (some (.own e)) := by
      by_cases hj : i = j
      · subst hj; exact ⟨_, hd⟩
      · rw [List.getElem?_set_ne hj] at h1; exact ⟨_, h1⟩
    have o2 : ∃ e, env[k]? = some (some (.own e)) := by
      by_cases hj : i = k
      · subst hj; exact ⟨_, hd⟩
      · rw [List.getElem?_set_ne hj] at h2; exact ⟨_, h2⟩
    obtain ⟨e1, o1⟩ := o1
    obtain ⟨e2, o2⟩ := o2
    exact r.apart j k a e1 e2 o1 o2 h3 h4
  · by_cases e : b = l
    · subst e; rw [hl] at z; cases z
    · by_cases et : b ∈ T.tbs.map (·.1)
      · obtain ⟨ps, e2⟩ := tab_some tb et
        rw [e2] at z; cases z
      · cases q : H b with
        | none => exact r.live b hb q
        | some o =>
          rw [f b o q (fun w => by
            rcases List.mem_cons.mp w with w | w
            · exact e w
            · exact et w)] at z
          cases z
  · obtain ⟨h1, es, h2⟩ := r.pars p hp
    refine ⟨h1, ?_⟩
    by_cases hj : i = p.1
    · rw [← hj, List.getElem?_set_self hlt]; exact ⟨_, rfl⟩
    · rw [List.getElem?_set_ne hj]; exact ⟨_, h2⟩
/-- an owned list has another content -/
theorem R.setOwn {i : Nat} {l : Addr} {ds out : List PyData} {vs' : List V} (r : R T O M env σ H) (hd : env[i]? = some (some (.own ds))) (hσ : σ[i]? = some (some (.ref l))) (f : Fr [l] H H')
    (hl : H' l = some (.lst vs')) (hv : DpAll T.K (Pd.cut O H') vs' out) : R T O M (env.set i (some (.own out))) σ H' := by
  refine r.setOwnT hd hσ (fun b o h n => f b o h fun z => n (by rw [List.mem_singleton.mp z]; exact List.mem_cons_self)) hl hv ?_
  obtain ⟨v, q1, q2⟩ := r.at_ _ _ hd
  rw [hσ] at q1; cases q1
  obtain ⟨l', vs, w1, w2, w3, _⟩ := q2
  cases w1
  exact tabs_but r.tabs ⟨vs, w3⟩ fun b o hb hn => f b o hb (by simpa using hn)
/-- the arguments as the callee sees them -/
theorem args_rep (r : R T O M env σ H) : ∀ {us : List V} {as : List Arg} {svs : List SV}, Paired (RepA T.K O M env σ H) us as → svsOf env as = some svs →
    (∀ j, (ownPar j us svs).length = (ownSlots as).length ∧ (∀ p ∈ ownPar j us svs, ∃ i ∈ ownSlots as, σ[i]? = some (some (.ref p.2)) ∧ isOwn env i = true) ∧ ∀ P : List Addr, (∀ p ∈ ownPar j us svs, p.2 ∈ P) → Paired (RepS T.K O P H) us svs)
  | _, _, _, .nil, e => by
    cases e
    exact fun j => ⟨rfl, (fun p hp => by cases hp), fun P _ => .nil⟩
  | v :: us, a :: as, svs, .cons h t, e => by
    unfold svsOf at e
    split at e
    · rename_i s ss hs hss
      cases e
      have ih := args_rep r t hss
      intro j
      obtain ⟨i1, i2, i3⟩ := ih (j + 1)
      cases a with
      | v x =>
        have hx : (∀ ds, s ≠ .own ds) ∧ RepR T.K O H v s := by
          cases x with
          | own ds => cases hs
          | dic ds => cases hs
          | da d => cases hs; exact ⟨(fun _ z => nomatch z), h⟩
          | obj C fs => cases hs; exact ⟨(fun _ z => nomatch z), h⟩
        have e1 : ownPar j (v :: us) (s :: ss) = ownPar (j + 1) us ss := by
          cases s with
          | own ds => exact absurd rfl (hx.1 ds)
          | dic ds => exact absurd hx.2 id
          | da d => cases v <;> rfl
          | obj C fs => cases v <;> rfl
        rw [e1]
        refine ⟨i1, i2, fun P hP => .cons ?_ (i3 P hP)⟩
        cases s with
        | own ds => exact absurd rfl (hx.1 ds)
        | dic ds => exact absurd hx.2 id
        | da d => exact hx.2
        | obj C fs => exact hx.2
      | o i =>
        obtain ⟨h1, ds, h2⟩ := h
        have hs' : s = .own ds := by
          have q : svOf env (.o i) = some (.own ds) := by simp [svOf, h2]
          rw [q] at hs
          cases hs; rfl
        subst hs'
        obtain ⟨v', q1, l, vs, q2, q3, q4, q5⟩ := r.at_ _ _ h2
        rw [h1] at q1; cases q1
        subst q2
        refine ⟨by show (_ :: _).length = (_ :: _).length; rw [List.length_cons, List.length_cons, i1], fun p hp => ?_, fun P hP => ?_⟩
        · rcases List.mem_cons.mp hp with e | hp
          · subst e
            exact ⟨i, List.mem_cons_self, h1, by unfold isOwn; rw [h2]⟩
          · obtain ⟨k, k1, k2, k3⟩ := i2 p hp
            exact ⟨k, List.mem_cons_of_mem _ k1, k2, k3⟩
        · exact .cons ⟨l, vs, rfl, hP (j, l) List.mem_cons_self, q4, q5⟩ (i3 P fun p hp => hP p (List.mem_cons_of_mem _ hp))
    · cases e
end

section
variable {X : Cx} {E : Wish} {pos : Pos}
theorem callM_split {F : List SV → Option Res} {as : List Arg} {env : PEnv} {o : Out SV} (h : callM F as env = some o) : (ownSlots as).length ≤ 1 ∧ ∃ svs, svsOf env as = some svs ∧
    ((∃ d out, F svs = some (.ret d out) ∧ o = .ok d (setOwn env out (ownSlots as))) ∨ ∃ C fs, F svs = some (.exc C fs) ∧ o = .exc C fs) := by
  unfold callM at h
  split at h
  · cases h
  · rename_i is hne
    refine ⟨?_, ?_⟩
    · rcases q : ownSlots as with _ | ⟨a, _ | ⟨b, l⟩⟩
      · exact Nat.zero_le _
      · exact Nat.le_refl _
      · exact absurd q (hne a b l)
    · split at h
      · rename_i svs hs
        refine ⟨svs, hs, ?_⟩
        split at h
        · cases h
        · rename_i d out _ hF
          cases h; exact .inl ⟨_, _, hF, rfl⟩
        · rename_i C fs hF
          cases h; exact .inr ⟨_, _, hF, rfl⟩
        · cases h
      · cases h
/-- the callee's promise from the caller's state -/
theorem call_sat {F : List SV → Option Res} {T : Ent} {O M : List Addr} {env : PEnv} {σ : L2.St} {H : Hp} {us : List V} {as : List Arg} {Q : VK} {o : Out SV} (r : R T O M env σ H) (ra : Paired (RepA T.K O M env σ H) us as)
    (e : callM F as env = some o) (p : Post T E O M σ H Q o) : spF T.K T.tbs F us H Q E.xk := by
  obtain ⟨hle, svs, hs, hF⟩ := callM_split e
  obtain ⟨a1, a2, a3⟩ := args_rep r ra hs 0
  have hP : ∀ l ∈ (ownPar 0 us svs).map (·.2), l ∈ M := fun l hl => by
    obtain ⟨q, hq, rfl⟩ := List.mem_map.mp hl
    obtain ⟨i, _, h1, h2⟩ := a2 q hq
    obtain ⟨ds, h2⟩ := isOwn_some h2
    obtain ⟨v, q1, l, vs, q2, q3, _⟩ := r.at_ _ _ h2
    rw [h1] at q1; cases q1; cases q2; exact q3
  have hPT : ∀ l ∈ (ownPar 0 us svs).map (·.2) ++ T.tbs.map (·.1), l ∈ M := fun l hl => by
    rcases List.mem_append.mp hl with z | z
    · exact hP l z
    · obtain ⟨q, hq, rfl⟩ := List.mem_map.mp z
      exact r.tin q hq
  have fP : ∀ {H'}, Fr ((ownPar 0 us svs).map (·.2) ++ T.tbs.map (·.1)) H H' → Fr M H H' := fun f b o h n => f b o h fun z => n (hPT b z)
  have base : ∀ res, F svs = some res → (match res with
      | .ret d out => ∀ v H', Fr ((ownPar 0 us svs).map (·.2) ++ T.tbs.map (·.1)) H H' → LamX.Tabs T.tbs H' → (∀ l ∈ (ownPar 0 us svs).map (·.2), ∃ vs', H' l = some (.lst vs') ∧ DpAll T.K (cut O H') vs' out) → RepR T.K O H' v d → Q v H'
      | .exc C fs => ∀ od H', Fr ((ownPar 0 us svs).map (·.2) ++ T.tbs.map (·.1)) H H' → LamX.Tabs T.tbs H' → RepX T.K O H' fs od → E.xk (.ref C) od H') → spF T.K T.tbs F us H Q E.xk := fun res hf hq =>
    ⟨O, (ownPar 0 us svs).map (·.2), svs, res, r.live, fun l hl => r.sub l (hP l hl), rfl, by rw [List.length_map, a1]; exact hle, r.tabs, fun p hp => r.sub _ (r.tin p hp), a3 _ fun q hq => List.mem_map_of_mem hq, hf, hq⟩
  rcases hF with ⟨d, out, hf, rfl⟩ | ⟨C, fs, hf, rfl⟩
  · refine base _ hf fun v H' f tb hl rv => ?_
    refine p v H' ?_ (fP f) rv
    rcases q : ownSlots as with _ | ⟨i, _ | ⟨b, l⟩⟩
    · have e0 : ownPar 0 us svs = [] := List.eq_nil_of_length_eq_zero (by rw [a1, q]; rfl)
      rw [e0] at f
      exact r.tabd (by simpa using f) tb
    · rcases q2 : ownPar 0 us svs with _ | ⟨z, _ | ⟨z2, l2⟩⟩
      · rw [q2, q] at a1; cases a1
      · obtain ⟨i', hi', h1, h2⟩ := a2 z (by rw [q2]; exact List.mem_cons_self)
        rw [q] at hi'
        have ei : i' = i := by simpa using hi'
        subst ei
        obtain ⟨ds, h2⟩ := isOwn_some h2
        obtain ⟨vs', hl1, hl2⟩ := hl z.2 (by rw [q2]; exact List.mem_cons_self)
        rw [q2] at f
        exact r.setOwnT h2 h1 (by simpa using f) hl1 hl2 tb
      · rw [q2, q] at a1; cases a1
    · rw [q] at hle; simp at hle
  · refine base _ hf fun od H' f tb x => p od H' (r.frT (fP f)) tb (x.ent r.ent)
theorem pd_call {x : Str} {k n j : Nat} {F : List SV → Option Res} {e : Expr} {es : List Expr} {p : Pos} {f : Mo (List Arg)} (B : FnB X.prog X.w X.K X.mg X.base E.tbs x k n F) (hr : Room j X.A) (hk : k ≤ j) (hg : Gl X x) (pas : PasW X E) (h : PDA X E (e :: es) f)
    (hdb : (x == ("__debug__" : Str)) = false := by decide) (he : starEach (e :: es) X.env = (false, eval e X.env) :: starEach es X.env := by rfl) (hpl : (backTo pos (starEach es X.env)).any (·.1) = false := by rfl) :
    PDE X E (.Call (.Name x p) (e :: es) [] pos) (bindM f (callM F)) := by
  obtain ⟨fa, fd, ps, hm, kp, hb, _, fn⟩ := B.ex
  obtain ⟨t, h1, h2⟩ := h
  refine ⟨_, pe_call fn (hr.mono hk) hg hm kp hb .nil pas.p h1 hdb he hpl, fun T O M env σ H Q o hK rr ee p => ?_⟩
  refine h2.bind (Q := fun vs H1 => spF X.K E.tbs F (vs ++ []) H1 Q E.xk) hK rr ee p.exc fun y e2 us H2 ek2 r2 f2 p2 => ?_
  rw [List.append_nil, ← hK.eq, ← hK.tb]
  exact call_sat r2 p2 ek2 (p.shift f2)

/-! ### a property that hands back a field -/
structure PropD (P : Program) (w : World) (K : PySem.W.Frag) (mg : Str → Option Value) (base : Heap) (C : Addr) (name fld : Str) (k : Nat) : Prop where
  cls : Cls K C
  ex : ∃ (p g : Addr) (fd : FuncData), PropOf K C name p g ∧ Binds K fd ["self"] [] ∧ FnOk P w K mg base (L2.CX P w) k g fd ["self"] (getSp C fld)
def fldOf (C : Addr) (fld : Str) : SV → Option SV
  | .obj C' fs => if C' = C then (fs.lookup fld).map .da else none
  | _ => none
def fldM (C : Addr) (fld : Str) (f : Mo SV) : Mo SV := bindM f fun x => liftO (fldOf C fld x)
theorem pd_prop {C : Addr} {name fld : Str} {k j : Nat} {e : Expr} {f : Mo SV} (B : PropD X.prog X.w X.K X.mg X.base C name fld k) (hr : Room j X.A) (hk : k + 1 ≤ j) (h : PDE X E e f)
    (hab : attributeBase e name X.env (eval e X.env) = eval e X.env := by rfl) : PDE X E (.Attribute e name pos) (fldM C fld f) := by
  obtain ⟨p, g, fd, hp, hb, fn⟩ := B.ex
  obtain ⟨t, h1, h2⟩ := h
  refine ⟨_, pe_prop (E := E0) h1 B.cls hp fn (hr.mono hk) hb .nil (fun _ _ _ _ _ _ _ z => by obtain ⟨_, _, _, _, _, _, _, _, _, _, _, _, z⟩ := z; exact z) hab, fun T O M env σ H Q o hK rr ee p => ?_⟩
  refine h2.bind (Q := fun x H1 => ∃ a dx fs, x = .ref a ∧ H1 a = some (.ins C dx fs) ∧ getSp C fld (.ref a :: []) H1 Q E0) hK rr ee p.exc fun y e2 v H2 ek r2 f2 p2 => ?_
  obtain ⟨c, ec, rfl⟩ := lift_split ek
  unfold fldOf at ec
  split at ec
  · rename_i C' fs
    split at ec
    · rename_i eC
      subst eC
      obtain ⟨a, dx, gs, rfl, h3, h4⟩ := p2
      cases q : fs.lookup fld with
      | none => rw [q] at ec; cases ec
      | some d =>
        rw [q] at ec; cases ec
        obtain ⟨u, hu, hd⟩ := h4.look q
        have hH := (cut_some h3).1
        exact ⟨a, dx, gs, rfl, hH, a, dx, gs, u, rfl, hH, hu, p u H2 r2 f2 hd⟩
    · cases ec
  · cases ec

/-! ### slices -/
def cutD (xs : List PyData) (lo hi : Option Int) : List PyData := (xs.drop (HT.sIx xs.length 0 lo)).take (HT.sIx xs.length xs.length hi - HT.sIx xs.length 0 lo)
theorem cut_rep {K : PySem.W.Frag} {H : Hp} {vs : List V} {ds : List PyData} (h : DpAll K H vs ds) (lo hi : Option Int) : DpAll K H (cutV vs lo hi) (cutD ds lo hi) := by
  unfold cutV cutD
  rw [DpAll.length h]
  exact DpAll.take _ (DpAll.drop _ h)
def PDO (X : Cx) (E : Wish) (e : Option Expr) (f : Mo (Option Int)) : Prop := ∃ t, PO X e t ∧ ∀ (T : Ent) (O M : List Addr) (env : PEnv) (σ : L2.St) (H : Hp) (Q : Option Int → Hp → Prop) (o : Out (Option Int)), KT T X.K E → R T O M env σ H → f env = some o →
  (match o with
    | .ok i env' => ∀ H', R T O M env' σ H' → Fr M H H' → Q i H'
    | .exc C fs => XP T E C fs) → t σ H Q
theorem pdo_none : PDO X E none (retM none) := ⟨_, po_none, fun T O M env σ H Q o hK r e p => by cases e; exact p H r Fr.refl⟩
def asI : SV → Option Int
  | .da (.int i) => some i
  | _ => none
theorem asI_some {x : SV} {i : Int} (h : asI x = some i) : x = .da (.int i) := by
  unfold asI at h
  split at h
  · cases h; rfl
  · cases h
def partM (f : Mo SV) : Mo (Option Int) := bindM f fun x => liftO ((asI x).map some)
theorem pdo_some {e : Expr} {f : Mo SV} (h : PDE X E e f) : PDO X E (some e) (partM f) := by
  obtain ⟨t, h1, h2⟩ := h
  refine ⟨_, po_some h1, fun T O M env σ H Q o hK rr ee p => ?_⟩
  refine h2.bind (Q := fun x H1 => ∃ i, x = .int i ∧ Q (some i) H1) hK rr ee (fun C fs e => by subst e; exact p) fun y e2 v H2 ek r2 f2 p2 => ?_
  obtain ⟨c, ec, rfl⟩ := lift_split ek
  cases q : asI y with
  | none => rw [q] at ec; cases ec
  | some i =>
    rw [q] at ec; cases ec
    have := asI_some q
    subst this
    exact ⟨i, Dp.isInt p2, p H2 r2 f2⟩
def sliceD : SV → Option Int → Option Int → Option SV
  | .da (.list ds), lo, hi => some (.da (.list (cutD ds lo hi)))
  | .da (.tuple ds), lo, hi => some (.da (.tuple (cutD ds lo hi)))
  | _, _, _ => none
def sliceM (f : Mo SV) (fl fh : Mo (Option Int)) : Mo SV := bindM f fun x => bindM fl fun l => bindM fh fun u => liftO (sliceD x l u)
theorem pd_slice {e : Expr} {lo hi : Option Expr} {p2 : Pos} {f : Mo SV} {fl fh : Mo (Option Int)} (h : PDE X E e f) (hl : PDO X E lo fl) (hh : PDO X E hi fh) : PDE X E (.Subscript e (.Slice lo hi none p2) pos) (sliceM f fl fh) := by
  obtain ⟨t, h1, h2⟩ := h
  obtain ⟨tl, l1, l2⟩ := hl
  obtain ⟨th, u1, u2⟩ := hh
  refine ⟨_, pe_slice (SlR.or sl_list sl_tupA) h1 l1 u1, fun T O M env σ H Q o hK rr ee p => ?_⟩
  refine h2.bind hK rr ee p.exc fun y e2 v H2 ek r2 f2 p2 => ?_
  rcases bind_split ek with ⟨C, fs, g1, rfl⟩ | ⟨i, e3, g1, g2⟩
  · exact l2 T O M e2 σ H2 _ (.exc C fs) hK r2 g1 p
  refine l2 T O M e2 σ H2 _ (.ok i e3) hK r2 g1 fun H3 r3 f3 => ?_
  rcases bind_split g2 with ⟨C, fs, g3, rfl⟩ | ⟨i2, e4, g3, g4⟩
  · exact u2 T O M e3 σ H3 _ (.exc C fs) hK r3 g3 p
  refine u2 T O M e3 σ H3 _ (.ok i2 e4) hK r3 g3 fun H4 r4 f4 => ?_
  obtain ⟨c, ec, rfl⟩ := lift_split g4
  have p2' := (p2.fr f3 r3.sub).fr f4 r4.sub
  have fa := (f2.trans f3).trans f4
  unfold sliceD at ec
  split at ec
  · cases ec
    rename_i ds
    obtain ⟨a, xs, rfl, hs, hx⟩ := Dp.isList p2'
    refine .inl ⟨a, xs, rfl, by rw [← hK.eq]; exact cut_le.seq hs, fun q hq => ?_⟩
    exact p _ _ (r4.same (same_upd hq)) (fa.trans (Fr.of (same_upd hq))) (rep_lst hq (r4.new hq) (cut_rep hx i i2))
  · cases ec
    rename_i ds
    obtain ⟨a, xs, rfl, hs, hx⟩ := Dp.isTup p2'
    refine .inr ⟨a, xs, rfl, by rw [← hK.eq]; exact Same.seqT cut_le hs, fun hw => ?_, fun _ q hq => ?_⟩
    · have hh : cutD ds i i2 = ds := by
        unfold cutD
        rw [← DpAll.length hx, hw.1, hw.2, List.drop_zero, Nat.sub_zero, DpAll.length hx, List.take_length]
      rw [hh] at p
      exact p _ _ r4 fa p2'
    · exact p _ _ (r4.same (same_upd hq)) (fa.trans (Fr.of (same_upd hq))) (rep_tup hq (r4.new hq) (cut_rep hx i i2))
  · cases ec
/-! an owned list read by its slot -/
def atD (ds : List PyData) (i : Int) : Option PyData := atI ds i
def ownIxM (i : Nat) (f : Mo SV) : Mo SV := fun env => if isOwn env i = true then bindM f (fun x env2 => match env2[i]?, asI x with
  | some (some (.own ds)), some j => (match atI ds j with
    | some d => some (.ok (.da d) env2)
    | none => none)
  | _, _ => none) env else none
theorem pd_ownIx (i : Nat) {x : Str} {b : Expr} {p0 : Pos} {f : Mo SV} (h : PE X (.Name x p0) (tVar i)) (hb : PDE X E b f) (hs : PlainIx b := by exact fun _ _ => rfl) : PDE X E (.Subscript (.Name x p0) b pos) (ownIxM i f) := by
  obtain ⟨t, h1, h2⟩ := hb
  refine ⟨_, pe_ix ix_list h h1 hs, fun T O M env σ H Q o hK rr ee p => ?_⟩
  unfold ownIxM at ee
  split at ee
  · rename_i hi
    obtain ⟨ds0, hd0⟩ := isOwn_some hi
    obtain ⟨v0, hv0, _⟩ := rr.at_ _ _ hd0
    refine ⟨v0, hv0, ?_⟩
    refine h2.bind hK rr ee p.exc fun y e2 v H2 ek r2 f2 p2 => ?_
    split at ek
    · rename_i ds j hd hj
      split at ek
      · rename_i d hat
        cases ek
        have := asI_some hj
        subst this
        obtain ⟨v1, q1, l, vs, q2, q3, q4, q5⟩ := r2.at_ _ _ hd
        rw [hv0] at q1; cases q1
        have q5 : DpAll T.K (cut O H2) vs ds := q5
        unfold atI at hat
        cases z : ixN ds.length j with
        | none => rw [z] at hat; cases hat
        | some m =>
          rw [z] at hat
          obtain ⟨u, hu, hdu⟩ := DpAll.get q5 hat
          refine ⟨l, vs, j, u, q2, Dp.isInt p2, SqL.of q4, ?_, p u H2 r2 f2 hdu⟩
          unfold atI
          rw [DpAll.length q5, z]
          exact hu
      · cases ek
    · cases ek
  · cases ee
end
end Pd
end
section
set_option Elab.async false
set_option linter.all false
set_option maxRecDepth 100000
set_option maxHeartbeats 4000000
namespace Pd
open PySem PySem.Spec PyProof.Rows L2

section
variable {X : Cx}
/-! ### what the operators do to data -/
theorem opd_or {op : Value → Value → Sem Value} {g g' h : SV → SV → Option SV} (a : OpD X op g) (b : OpD X op g') (hh : ∀ x y c, h x y = some c → g x y = some c ∨ g' x y = some c) : OpD X op h := by
  obtain ⟨r, h1, h2⟩ := a
  obtain ⟨r', h1', h2'⟩ := b
  refine ⟨_, OpR.or h1 h1', fun O H x y a b c Q l ra rb e q => ?_⟩
  rcases hh a b c e with e | e
  · exact .inl (h2 O H x y a b c Q l ra rb e q)
  · exact .inr (h2' O H x y a b c Q l ra rb e q)
/-- two ints -/
def intD (C : Int → Int → Bool) (f : Int → Int → PyData) : SV → SV → Option SV
  | .da (.int i), .da (.int j) => if C i j = true then some (.da (f i j)) else none
  | _, _ => none
theorem intD_some {C f a b c} (h : intD C f a b = some c) : ∃ i j, a = .da (.int i) ∧ b = .da (.int j) ∧ C i j = true ∧ c = .da (f i j) := by
  unfold intD at h
  split at h
  · split at h
    · cases h; exact ⟨_, _, rfl, rfl, by assumption, rfl⟩
    · cases h
  · cases h
theorem opd_int {op : Value → Value → Sem Value} {C : Int → Int → Bool} {P : Int → Int → Prop} {f : Int → Int → PyData} {g : Int → Int → V} (h : OpR X op (rI P g)) (hc : ∀ i j, C i j = true → P i j) (hf : ∀ i j H, Dp X.K H (g i j) (f i j)) : OpD X op (intD C f) := by
  refine ⟨_, h, fun O H x y a b c Q l ra rb e q => ?_⟩
  obtain ⟨i, j, rfl, rfl, hC, rfl⟩ := intD_some e
  exact ⟨i, j, Dp.isInt ra, Dp.isInt rb, hc i j hC, q _ H (Same.refl H) (hf i j _)⟩
theorem opd_int0 {op : Value → Value → Sem Value} {f : Int → Int → PyData} {g : Int → Int → V} (h : OpR X op (rI0 g)) (hf : ∀ i j H, Dp X.K H (g i j) (f i j)) : OpD X op (intD (fun _ _ => true) f) := by
  refine ⟨_, h, fun O H x y a b c Q l ra rb e q => ?_⟩
  obtain ⟨i, j, rfl, rfl, hC, rfl⟩ := intD_some e
  exact ⟨i, j, Dp.isInt ra, Dp.isInt rb, q _ H (Same.refl H) (hf i j _)⟩
theorem opd_sub : OpD X (binaryOp .Sub) (intD (fun _ _ => true) fun i j => .int (i - j)) := opd_int0 op_sub fun _ _ _ => .int _
def mulOk (i j : Int) : Bool := decide (i.natAbs.log2 + j.natAbs.log2 < 1000000)
theorem opd_mul : OpD X (binaryOp .Mult) (intD mulOk fun i j => .int (i * j)) := opd_int op_mulW (fun i j h => (of_decide_eq_true h : i.natAbs.log2 + j.natAbs.log2 < 1000000)) fun _ _ _ => .int _
def divOk (_ j : Int) : Bool := decide (0 < j ∧ j.natAbs.log2 < 9000)
theorem opd_div : OpD X (binaryOp .FloorDiv) (intD divOk fun i j => .int (i / j)) := opd_int op_fdivW (fun i j h => (of_decide_eq_true h : 0 < j ∧ j.natAbs.log2 < 9000)) fun _ _ _ => .int _
def modOk (_ j : Int) : Bool := decide (0 < j)
theorem opd_mod : OpD X (binaryOp .Mod) (intD modOk fun i j => .int (i % j)) := opd_int op_mod (fun i j h => of_decide_eq_true h) fun _ _ _ => .int _
def powOk (i j : Int) : Bool := decide (0 ≤ j ∧ j ≤ 1000000 ∧ i.natAbs < 2 ^ 64)
theorem opd_pow : OpD X (binaryOp .Pow) (intD powOk fun i j => .int (i ^ j.toNat)) := opd_int op_pow (fun i j h => (of_decide_eq_true h : 0 ≤ j ∧ j ≤ 1000000 ∧ i.natAbs < 2 ^ 64)) fun _ _ _ => .int _
theorem opd_lt : OpD X (compareOp .Lt) (intD (fun _ _ => true) fun i j => .bool (decide (i < j))) := opd_int0 op_lt fun _ _ _ => .bl _
theorem opd_le : OpD X (compareOp .LtE) (intD (fun _ _ => true) fun i j => .bool (decide (i ≤ j))) := opd_int0 op_le fun _ _ _ => .bl _
theorem opd_gt : OpD X (compareOp .Gt) (intD (fun _ _ => true) fun i j => .bool (decide (j < i))) := opd_int0 op_gt fun _ _ _ => .bl _
theorem opd_ge : OpD X (compareOp .GtE) (intD (fun _ _ => true) fun i j => .bool (decide (j ≤ i))) := opd_int0 op_ge fun _ _ _ => .bl _

/-! lists and tuples put together -/
theorem op_catL : OpR X (binaryOp .Add) (fun x y H Q => ∃ (la lb : Addr) (xs zs : List V), x = V.ref la ∧ y = V.ref lb ∧ SqL X.K H la xs ∧ SqL X.K H lb zs ∧ xs.length + zs.length ≤ sizeLine ∧ ∀ q, H q = none → Q (V.ref q) (upd H q (HO.lst (xs ++ zs)))) := by
  intro pins s σ H x y v u Q I rx ry hh
  obtain ⟨la, lb, xs, zs, rfl, rfl, hA, hB, hsz, fin⟩ := hh
  have ea : v = Value.ref la := rx
  have eb : u = Value.ref lb := ry
  subst ea eb
  obtain ⟨i1, v1, ⟨⟨c1, d1, da1, s1⟩, n1, g1, k1, _, t1⟩, _⟩ := I.list hA
  obtain ⟨i2, v2, ⟨⟨c2, d2, da2, s2⟩, n2, g2, k2, _, t2⟩, _⟩ := I.list hB
  simp only at k1 t1 k2 t2
  subst k1 t1 k2 t2
  have hsz' : i1.toArray.size + i2.toArray.size ≤ sizeLine := by
    rw [List.size_toArray, List.size_toArray, ← v1.length, ← v2.length]; exact hsz
  refine concat_meets ⟨_, g1, rfl⟩ ⟨_, g2, rfl⟩ noFill_list_add seq_list_add PySem.F.slot_list_add PySem.F.entry_list_add (PySem.F.args_list_add_2 _ _)
    (list_addW la lb i1.toArray i2.toArray n1 n2 d1 d2 s1 s2 hsz') ⟨g1, g2, ?_⟩
  have eap : i1.toArray ++ i2.toArray = (i1 ++ i2).toArray := by simp
  rw [eap]
  exact ⟨V.ref s.heap.objs.size, _, I.lnew (t' := s.toks) (Vals.append v1 v2) (by rw [List.length_append]; exact hsz), rfl, fin _ I.fresh⟩
def LIM : Nat := 1000000
theorem lim_le {n : Nat} (h : n ≤ LIM) : n ≤ sizeLine := Nat.le_trans h (by decide)
def addD : SV → SV → Option SV
  | .da (.int i), .da (.int j) => some (.da (.int (i + j)))
  | .da (.list xs), .da (.list ys) => if xs.length + ys.length ≤ LIM then some (.da (.list (xs ++ ys))) else none
  | .da (.tuple xs), .da (.tuple ys) => if xs.length + ys.length ≤ LIM then some (.da (.tuple (xs ++ ys))) else none
  | _, _ => none
theorem opd_catL : OpD X (binaryOp .Add) (fun x y => match x, y with
    | .da (.list xs), .da (.list ys) => if xs.length + ys.length ≤ LIM then some (.da (.list (xs ++ ys))) else none
    | _, _ => none) := by
  refine ⟨_, op_catL, fun O H x y a b c Q l ra rb e q => ?_⟩
  dsimp only at e
  split at e
  · split at e
    · rename_i hz
      cases e
      obtain ⟨a1, xs, rfl, h1, h2⟩ := Dp.isList ra
      obtain ⟨a2, ys, rfl, h3, h4⟩ := Dp.isList rb
      refine ⟨a1, a2, xs, ys, rfl, rfl, cut_le.seq h1, cut_le.seq h3, by rw [DpAll.length h2, DpAll.length h4]; exact lim_le hz, fun w hw => ?_⟩
      exact q _ _ (same_upd hw) (rep_lst hw (l.new hw) (DpAll.append h2 h4))
    · cases e
  · cases e
theorem opd_catT : OpD X (binaryOp .Add) (fun x y => match x, y with
    | .da (.tuple xs), .da (.tuple ys) => if xs.length + ys.length ≤ LIM then some (.da (.tuple (xs ++ ys))) else none
    | _, _ => none) := by
  refine ⟨_, op_catA, fun O H x y a b c Q l ra rb e q => ?_⟩
  dsimp only at e
  split at e
  · split at e
    · rename_i hz
      cases e
      obtain ⟨a1, xs, rfl, h1, h2⟩ := Dp.isTup ra
      obtain ⟨a2, ys, rfl, h3, h4⟩ := Dp.isTup rb
      refine ⟨a1, a2, xs, ys, rfl, rfl, Same.seqT cut_le h1, Same.seqT cut_le h3, by rw [DpAll.length h2, DpAll.length h4]; exact lim_le hz, fun z => ?_, fun z z2 => ?_, fun z z2 w hw => ?_⟩
      · subst z
        cases h2
        exact q _ _ (Same.refl H) (by rw [List.nil_append]; exact rb)
      · subst z2
        cases h4
        exact q _ _ (Same.refl H) (by rw [List.append_nil]; exact ra)
      · exact q _ _ (same_upd hw) (rep_tup hw (l.new hw) (DpAll.append h2 h4))
    · cases e
  · cases e
theorem opd_add : OpD X (binaryOp .Add) addD := by
  refine opd_or (opd_int0 (f := fun i j => .int (i + j)) op_add fun _ _ _ => .int _) (opd_or (h := fun x y => match x, y with
    | .da (.list xs), .da (.list ys) => if xs.length + ys.length ≤ LIM then some (.da (.list (xs ++ ys))) else none
    | .da (.tuple xs), .da (.tuple ys) => if xs.length + ys.length ≤ LIM then some (.da (.tuple (xs ++ ys))) else none
    | _, _ => none) opd_catL opd_catT fun x y c h => ?_) fun x y c h => ?_
  · split at h
    · exact .inl h
    · exact .inr h
    · cases h
  · unfold addD at h
    split at h
    · exact .inl h
    · exact .inr h
    · exact .inr h
    · cases h

/-! equality, membership -/
def eqD : SV → SV → Option SV
  | .da d, .da e => if (SeqAt.shaped d && SeqAt.shaped e) = true then some (.da (.bool (PyData.eqv d e))) else none
  | _, _ => none
def neD : SV → SV → Option SV
  | .da d, .da e => if (SeqAt.shaped d && SeqAt.shaped e) = true then some (.da (.bool (!PyData.eqv d e))) else none
  | _, _ => none
theorem opd_eq (hu : X.A.units + 64 < cLine) : OpD X (compareOp .Eq) eqD := by
  refine ⟨_, op_eqD hu, fun O H x y a b c Q l ra rb e q => ?_⟩
  unfold eqD at e
  split at e
  · split at e
    · rename_i hs
      cases e
      rw [Bool.and_eq_true] at hs
      exact ⟨_, _, Dp.mono cut_le _ _ ra, Dp.mono cut_le _ _ rb, hs.1, hs.2, q _ H (Same.refl H) (.bl _)⟩
    · cases e
  · cases e
theorem opd_ne (hu : X.A.units + 64 < cLine) : OpD X (compareOp .NotEq) neD := by
  refine ⟨_, op_neD hu, fun O H x y a b c Q l ra rb e q => ?_⟩
  unfold neD at e
  split at e
  · split at e
    · rename_i hs
      cases e
      rw [Bool.and_eq_true] at hs
      exact ⟨_, _, Dp.mono cut_le _ _ ra, Dp.mono cut_le _ _ rb, hs.1, hs.2, q _ H (Same.refl H) (.bl _)⟩
    · cases e
  · cases e
def intsOf : List PyData → Option (List Int)
  | [] => some []
  | .int i :: r => (intsOf r).map (i :: ·)
  | _ :: _ => none
theorem intsOf_some : ∀ {ds : List PyData} {ns : List Int}, intsOf ds = some ns → ds = ns.map .int
  | [], ns, h => by cases h; rfl
  | .int i :: r, ns, h => by
    unfold intsOf at h
    cases q : intsOf r with
    | none => rw [q] at h; cases h
    | some ms => rw [q] at h; cases h; rw [intsOf_some q]; rfl
  | .none :: r, _, h => by cases h
  | .bool _ :: r, _, h => by cases h
  | .str _ :: r, _, h => by cases h
  | .list _ :: r, _, h => by cases h
  | .tuple _ :: r, _, h => by cases h
  | .dict _ :: r, _, h => by cases h
theorem intsOf_map (ns : List Int) : intsOf (ns.map .int) = some ns := by
  induction ns with
  | nil => rfl
  | cons n ns ih => show (intsOf (ns.map .int)).map (n :: ·) = _; rw [ih]; rfl
def inD (neg : Bool) : SV → SV → Option SV
  | .da d, .da (.list ds) => if (SeqAt.shaped d && SeqAt.shaped (.list ds)) = true then some (.da (.bool (neg ^^ ds.any fun z => PyData.eqv z d))) else none
  | .da (.int i), .da (.tuple ds) => match intsOf ds with
    | some ns => some (.da (.bool (neg ^^ ns.contains i)))
    | none => none
  | _, _ => none
theorem inV_ints (i : Int) (ns : List Int) : inV (.int i) (ns.map V.int) = ns.contains i := by
  induction ns with
  | nil => rfl
  | cons n ns ih =>
    show (eqV (.int n) (.int i) || inV (.int i) (ns.map V.int)) = _
    rw [ih, List.contains_cons]
    show ((n == i) || _) = _
    rw [show (n == i) = (i == n) from BEq.comm]
theorem flat_ints (ns : List Int) : (ns.map V.int).all flatV = true := by
  rw [List.all_map]; exact List.all_eq_true.mpr fun _ _ => rfl
theorem opd_in_ {op : CmpOp} {neg : Bool} {r1 : R2} (h1 : OpR X (compareOp op) r1) (h1' : r1 = fun x y H Q => ∃ d ds, Dp X.K H x d ∧ Dp X.K H y (.list ds) ∧ SeqAt.shaped d = true ∧ SeqAt.shaped (.list ds) = true ∧ Q (.bl (neg ^^ ds.any fun z => PyData.eqv z d)) H)
    (h2 : OpR X (compareOp op) (rIn X.K neg)) : OpD X (compareOp op) (inD neg) := by
  subst h1'
  refine ⟨_, OpR.or h1 h2, fun O H x y a b c Q l ra rb e q => ?_⟩
  unfold inD at e
  split at e
  · split at e
    · rename_i hs
      cases e
      rw [Bool.and_eq_true] at hs
      exact .inl ⟨_, _, Dp.mono cut_le _ _ ra, Dp.mono cut_le _ _ rb, hs.1, hs.2, q _ H (Same.refl H) (.bl _)⟩
    · cases e
  · split at e
    · rename_i ns hn
      cases e
      rw [intsOf_some hn] at rb
      obtain ⟨p, xs, rfl, h3, h4⟩ := Dp.isTup rb
      have hx : xs = ns.map V.int := DpAll.ints h4
      subst hx
      rw [Dp.isInt ra]
      refine .inr ⟨p, _, rfl, .inr (Same.seqT cut_le h3), rfl, flat_ints ns, ?_⟩
      rw [inV_ints]
      cases neg
      · exact q _ H (Same.refl H) (by rw [Bool.false_xor]; exact .bl _)
      · exact q _ H (Same.refl H) (by rw [Bool.true_xor]; exact .bl _)
    · cases e
  · cases e
theorem opd_in (hu : X.A.units + 65 < cLine) : OpD X (compareOp .In) (inD false) :=
  opd_in_ (op_inD hu) (by unfold rInD; simp only [Bool.false_xor]) op_in_seq
theorem opd_notIn (hu : X.A.units + 65 < cLine) : OpD X (compareOp .NotIn) (inD true) :=
  opd_in_ (op_notInD hu) (by unfold rNotInD; simp only [Bool.true_xor]) op_notIn_seq
/-! None -/
def isNone : SV → Bool
  | .da .none => true
  | _ => false
theorem isNone_rep {K : PySem.W.Frag} {O : List Addr} {H : Hp} {x : V} {a : SV} (h : RepR K O H x a) : decide (x = .non) = isNone a := by
  cases a with
  | own ds => exact h.elim
  | dic ds => exact h.elim
  | obj C fs => obtain ⟨a, _, _, rfl, _⟩ := h; rfl
  | da d => cases d <;> cases h <;> rfl
theorem opd_isN : OpD X (compareOp .Is) (fun a b => if isNone b = true then some (.da (.bool (isNone a))) else none) := by
  refine ⟨_, op_isN, fun O H x y a b c Q l ra rb e q => ?_⟩
  dsimp only at e
  split at e
  · rename_i hb
    cases e
    refine ⟨of_decide_eq_true (by rw [isNone_rep rb]; exact hb), ?_⟩
    rw [isNone_rep ra]
    exact q _ H (Same.refl H) (.bl _)
  · cases e
theorem opd_notN : OpD X (compareOp .IsNot) (fun a b => if isNone b = true then some (.da (.bool (!isNone a))) else none) := by
  refine ⟨_, op_notN, fun O H x y a b c Q l ra rb e q => ?_⟩
  dsimp only at e
  split at e
  · rename_i hb
    cases e
    refine ⟨of_decide_eq_true (by rw [isNone_rep rb]; exact hb), ?_⟩
    rw [isNone_rep ra]
    exact q _ H (Same.refl H) (.bl _)
  · cases e
/-! items -/
def ixD : SV → SV → Option SV
  | .da (.list ds), .da (.int i) => (atI ds i).map .da
  | .da (.tuple ds), .da (.int i) => (atI ds i).map .da
  | _, _ => none
theorem atI_rep {K : PySem.W.Frag} {H : Hp} {vs : List V} {ds : List PyData} {i : Int} {d : PyData} (h : DpAll K H vs ds) (e : atI ds i = some d) : ∃ v, atI vs i = some v ∧ Dp K H v d := by
  unfold atI at e ⊢
  cases z : ixN ds.length i with
  | none => rw [z] at e; cases e
  | some m =>
    rw [z] at e
    obtain ⟨u, hu, hd⟩ := DpAll.get h e
    exact ⟨u, by rw [DpAll.length h, z]; exact hu, hd⟩
theorem ixd_seq : IxD X ixD := by
  refine ⟨_, ix_seq, fun O H x y a b c Q l ra rb e q => ?_⟩
  unfold ixD at e
  split at e
  · rename_i ds i
    cases z : atI ds i with
    | none => rw [z] at e; cases e
    | some d =>
      rw [z] at e; cases e
      obtain ⟨p, xs, rfl, h1, h2⟩ := Dp.isList ra
      obtain ⟨v, hv, hd⟩ := atI_rep h2 z
      exact .inl ⟨p, xs, i, v, rfl, Dp.isInt rb, cut_le.seq h1, hv, q v H (Same.refl H) hd⟩
  · rename_i ds i
    cases z : atI ds i with
    | none => rw [z] at e; cases e
    | some d =>
      rw [z] at e; cases e
      obtain ⟨p, xs, rfl, h1, h2⟩ := Dp.isTup ra
      obtain ⟨v, hv, hd⟩ := atI_rep h2 z
      exact .inr (.inl ⟨p, xs, i, v, rfl, Dp.isInt rb, Same.seqT cut_le h1, hv, q v H (Same.refl H) hd⟩)
  · cases e

/-! ### built-in calls -/
def lenD : List SV → Option SV
  | [.da (.list ds)] => some (.da (.int ds.length))
  | [.da (.tuple ds)] => some (.da (.int ds.length))
  | _ => none
theorem paired1 {α β : Type} {F : α → β → Prop} {xs : List α} {b : β} (h : Paired F xs [b]) : ∃ a, xs = [a] ∧ F a b := by
  cases h with
  | cons r t => cases t; exact ⟨_, rfl, r⟩
theorem paired2 {α β : Type} {F : α → β → Prop} {xs : List α} {b c : β} (h : Paired F xs [b, c]) : ∃ a d, xs = [a, d] ∧ F a b ∧ F d c := by
  cases h with
  | cons r t =>
    obtain ⟨d, rfl, r2⟩ := paired1 t
    exact ⟨_, d, rfl, r, r2⟩
theorem cd_len : CallD X (.builtin "len") lenD := by
  refine ⟨_, call_len_seq, fun O H xs as c Q l r e q => ?_⟩
  unfold lenD at e
  split at e
  · cases e
    obtain ⟨x, rfl, rx⟩ := paired1 r
    obtain ⟨p, ys, rfl, h1, h2⟩ := Dp.isList rx
    exact ⟨p, ys, rfl, .inl (cut_le.seq h1), q _ H (Same.refl H) (by rw [DpAll.length h2]; exact .int _)⟩
  · cases e
    obtain ⟨x, rfl, rx⟩ := paired1 r
    obtain ⟨p, ys, rfl, h1, h2⟩ := Dp.isTup rx
    exact ⟨p, ys, rfl, .inr (Same.seqT cut_le h1), q _ H (Same.refl H) (by rw [DpAll.length h2]; exact .int _)⟩
  · cases e
/-- a call upon a list of ints -/
def lintD (f : List Int → Option PyData) : List SV → Option SV
  | [.da (.list ds)] => (intsOf ds).bind fun ns => (f ns).map .da
  | _ => none
theorem lintD_some {f as c} (h : lintD f as = some c) : ∃ ns d, as = [.da (.list (ns.map .int))] ∧ f ns = some d ∧ c = .da d := by
  unfold lintD at h
  split at h
  · rename_i ds
    cases q : intsOf ds with
    | none => rw [q] at h; cases h
    | some ns =>
      rw [q] at h
      cases q2 : f ns with
      | none => simp only [Option.bind_some, q2] at h; cases h
      | some d => simp only [Option.bind_some, q2] at h; cases h; exact ⟨ns, d, by rw [intsOf_some q], q2, rfl⟩
  · cases h
theorem rep_ints {K : PySem.W.Frag} {O : List Addr} {H : Hp} {xs : List V} {ns : List Int} (r : Paired (RepR K O H) xs [.da (.list (ns.map .int))]) : ∃ p, xs = [.ref p] ∧ SqL K H p (ns.map V.int) := by
  obtain ⟨x, rfl, rx⟩ := paired1 r
  obtain ⟨p, ys, rfl, h1, h2⟩ := Dp.isList rx
  have e := DpAll.ints h2
  subst e
  exact ⟨p, rfl, cut_le.seq h1⟩
theorem cd_sum (hc : X.calm = true) : CallD X (.builtin "sum") (lintD fun ns => some (.int ns.sum)) := by
  refine ⟨_, cr_sum hc, fun O H xs as c Q l r e q => ?_⟩
  obtain ⟨ns, d, rfl, e2, rfl⟩ := lintD_some e
  cases e2
  obtain ⟨p, rfl, h⟩ := rep_ints r
  exact ⟨p, ns, rfl, h, q _ H (Same.refl H) (.int _)⟩
def minL : List Int → Option Int
  | [] => none
  | n :: ns => some (ns.foldl min n)
theorem foldl_min_le : ∀ (ns : List Int) (a : Int), ns.foldl min a ≤ a ∧ ∀ y ∈ ns, ns.foldl min a ≤ y
  | [], a => ⟨Int.le_refl _, by simp⟩
  | n :: ns, a => by
    obtain ⟨h1, h2⟩ := foldl_min_le ns (min a n)
    rw [List.foldl_cons]
    refine ⟨by omega, fun y hy => ?_⟩
    rcases List.mem_cons.mp hy with rfl | hy
    · omega
    · exact h2 y hy
theorem foldl_min_mem : ∀ (ns : List Int) (a : Int), ns.foldl min a = a ∨ ns.foldl min a ∈ ns
  | [], a => .inl rfl
  | n :: ns, a => by
    rw [List.foldl_cons]
    rcases foldl_min_mem ns (min a n) with h | h
    · rw [h]
      by_cases q : a ≤ n
      · left; omega
      · right; rw [show min a n = n by omega]; exact List.mem_cons_self
    · right; exact List.mem_cons_of_mem _ h
theorem cd_min (hc : X.calm = true) : CallD X (.builtin "min") (lintD fun ns => (minL ns).map .int) := by
  refine ⟨_, cr_min hc, fun O H xs as c Q l r e q => ?_⟩
  obtain ⟨ns, d, rfl, e2, rfl⟩ := lintD_some e
  obtain ⟨p, rfl, h⟩ := rep_ints r
  cases ns with
  | nil => cases e2
  | cons n ns =>
    cases e2
    refine ⟨p, _, rfl, h, Nat.succ_pos _, fun m hm hle => ?_⟩
    have e : m = ns.foldl min n := by
      obtain ⟨h1, h2⟩ := foldl_min_le ns n
      have h3 : m ≤ ns.foldl min n := by
        rcases foldl_min_mem ns n with z | z
        · rw [z]; exact hle n List.mem_cons_self
        · exact hle _ (List.mem_cons_of_mem _ z)
      rcases List.mem_cons.mp hm with z | z
      · subst z; omega
      · have := h2 m z; omega
    subst e
    exact q _ H (Same.refl H) (.int _)
def minmaxD (f : Int → Int → Int) : List SV → Option SV
  | [.da (.int i), .da (.int j)] => some (.da (.int (f i j)))
  | _ => none
theorem cd_max2 (hc : X.calm = true) : CallD X (.builtin "max") (minmaxD fun i j => if j > i then j else i) := by
  refine ⟨_, call_max2 hc, fun O H xs as c Q l r e q => ?_⟩
  unfold minmaxD at e
  split at e
  · cases e
    obtain ⟨a, b, rfl, ra, rb⟩ := paired2 r
    exact ⟨_, _, by rw [Dp.isInt ra, Dp.isInt rb], q _ H (Same.refl H) (.int _)⟩
  · cases e
theorem cd_min2 (hc : X.calm = true) : CallD X (.builtin "min") (minmaxD fun i j => if j < i then j else i) := by
  refine ⟨_, call_min2 hc, fun O H xs as c Q l r e q => ?_⟩
  unfold minmaxD at e
  split at e
  · cases e
    obtain ⟨a, b, rfl, ra, rb⟩ := paired2 r
    exact ⟨_, _, by rw [Dp.isInt ra, Dp.isInt rb], q _ H (Same.refl H) (.int _)⟩
  · cases e
def intCallD : List SV → Option SV
  | [.da (.int i)] => some (.da (.int i))
  | _ => none
theorem cd_int : CallD X (.type "int") intCallD := by
  refine ⟨_, call_int1, fun O H xs as c Q l r e q => ?_⟩
  unfold intCallD at e
  split at e
  · cases e
    obtain ⟨a, rfl, ra⟩ := paired1 r
    exact .inl ⟨_, by rw [Dp.isInt ra], q _ H (Same.refl H) (.int _)⟩
  · cases e
def boolsOf : List PyData → Option (List Bool)
  | [] => some []
  | .bool b :: r => (boolsOf r).map (b :: ·)
  | _ :: _ => none
theorem boolsOf_some : ∀ {ds : List PyData} {ns : List Bool}, boolsOf ds = some ns → ds = ns.map .bool
  | [], ns, h => by cases h; rfl
  | .bool i :: r, ns, h => by
    unfold boolsOf at h
    cases q : boolsOf r with
    | none => rw [q] at h; cases h
    | some ms => rw [q] at h; cases h; rw [boolsOf_some q]; rfl
  | .none :: r, _, h => by cases h
  | .int _ :: r, _, h => by cases h
  | .str _ :: r, _, h => by cases h
  | .list _ :: r, _, h => by cases h
  | .tuple _ :: r, _, h => by cases h
  | .dict _ :: r, _, h => by cases h
theorem boolsOf_map (ns : List Bool) : boolsOf (ns.map .bool) = some ns := by
  induction ns with
  | nil => rfl
  | cons n ns ih => show (boolsOf (ns.map .bool)).map (n :: ·) = _; rw [ih]; rfl
def allD : List SV → Option SV
  | [.da (.list ds)] => (boolsOf ds).map fun bs => .da (.bool (bs.all id))
  | _ => none
theorem cd_all (hc : X.calm = true) : CallD X (.builtin "all") allD := by
  refine ⟨_, cr_all hc, fun O H xs as c Q l r e q => ?_⟩
  unfold allD at e
  split at e
  · rename_i ds
    cases z : boolsOf ds with
    | none => rw [z] at e; cases e
    | some bs =>
      rw [z] at e; cases e
      rw [boolsOf_some z] at r
      obtain ⟨x, rfl, rx⟩ := paired1 r
      obtain ⟨p, ys, rfl, h1, h2⟩ := Dp.isList rx
      have eb := DpAll.bools h2
      subst eb
      exact ⟨p, bs, rfl, cut_le.seq h1, q _ H (Same.refl H) (.bl _)⟩
  · cases e
def tupleD : List SV → Option SV
  | [.da (.list ds)] => some (.da (.tuple ds))
  | [.da (.tuple ds)] => some (.da (.tuple ds))
  | _ => none
theorem cd_tuple : CallD X (.type "tuple") tupleD := by
  refine ⟨_, call_tuple_of, fun O H xs as c Q l r e q => ?_⟩
  unfold tupleD at e
  split at e
  · cases e
    obtain ⟨x, rfl, rx⟩ := paired1 r
    obtain ⟨p, ys, rfl, h1, h2⟩ := Dp.isList rx
    exact ⟨p, ys, rfl, .inl ⟨cut_le.seq h1, fun w hw => q _ _ (same_upd hw) (rep_tup hw (l.new hw) h2)⟩⟩
  · cases e
    obtain ⟨x, rfl, rx⟩ := paired1 r
    obtain ⟨p, ys, rfl, h1, h2⟩ := Dp.isTup rx
    exact ⟨p, ys, rfl, .inr ⟨Same.seqT cut_le h1, q _ H (Same.refl H) rx⟩⟩
  · cases e
/-- sorted ints -/
def ins (n : Int) : List Int → List Int
  | [] => [n]
  | m :: r => if n ≤ m then n :: m :: r else m :: ins n r
def isort : List Int → List Int
  | [] => []
  | n :: r => ins n (isort r)
theorem ins_perm (n : Int) : ∀ l : List Int, (ins n l).Perm (n :: l)
  | [] => .refl _
  | m :: r => by
    unfold ins
    split
    · exact .refl _
    · exact ((ins_perm n r).cons m).trans (.swap n m r)
theorem isort_perm : ∀ l : List Int, (isort l).Perm l
  | [] => .refl _
  | n :: r => (ins_perm n (isort r)).trans ((isort_perm r).cons n)
theorem ins_sorted (n : Int) : ∀ l : List Int, l.Pairwise (· ≤ ·) → (ins n l).Pairwise (· ≤ ·)
  | [], _ => List.pairwise_singleton _ _
  | m :: r, h => by
    rw [List.pairwise_cons] at h
    unfold ins
    split
    · rename_i hnm
      refine List.pairwise_cons.mpr ⟨fun y hy => ?_, List.pairwise_cons.mpr h⟩
      rcases List.mem_cons.mp hy with rfl | hy
      · exact hnm
      · have := h.1 y hy; omega
    · rename_i hnm
      refine List.pairwise_cons.mpr ⟨fun y hy => ?_, ins_sorted n r h.2⟩
      rcases List.mem_cons.mp ((ins_perm n r).mem_iff.mp hy) with rfl | hy
      · omega
      · exact h.1 y hy
theorem isort_sorted : ∀ l : List Int, (isort l).Pairwise (· ≤ ·)
  | [] => .nil
  | n :: r => ins_sorted n _ (isort_sorted r)
theorem isort_uniq {a l : List Int} (h : a.Perm l) (s : a.Pairwise (· ≤ ·)) : a = isort l :=
  List.Perm.eq_of_pairwise (le := (· ≤ ·)) (fun x y _ _ h1 h2 => Int.le_antisymm h1 h2) s (isort_sorted l) (h.trans (isort_perm l).symm)
theorem cd_sorted : CallD X (.builtin "sorted") (lintD fun ns => if ns.length < 64 then some (.list ((isort ns).map .int)) else none) := by
  refine ⟨_, cr_sorted, fun O H xs as c Q l r e q => ?_⟩
  obtain ⟨ns, d, rfl, e2, rfl⟩ := lintD_some e
  split at e2
  · rename_i h64
    cases e2
    obtain ⟨p, rfl, h⟩ := rep_ints r
    refine ⟨p, ns, rfl, h, h64, fun ns' w hp hs hw => ?_⟩
    rw [isort_uniq hp hs]
    refine q _ _ (same_upd hw) (rep_lst hw (l.new hw) ?_)
    exact dpInts _ _ _
  · cases e2
where
  dpInts (K : PySem.W.Frag) (H : Hp) : ∀ ns : List Int, DpAll K H (ns.map V.int) (ns.map .int)
    | [] => .nil
    | n :: ns => .cons (.int n) (dpInts K H ns)
end
end Pd
end
section
set_option Elab.async false
set_option linter.all false
set_option maxRecDepth 100000
set_option maxHeartbeats 4000000
namespace Pd
open PySem PySem.Spec PyProof.Rows L2

/-! ### slots stored -/
def Chg (is : List Nat) (σ σ' : L2.St) : Prop := σ'.length = σ.length ∧ ∀ j : Nat, j ∉ is → σ'[j]? = σ[j]?
theorem Chg.refl {is σ} : Chg is σ σ := ⟨rfl, fun _ _ => rfl⟩
theorem Chg.trans {is js : List Nat} {σ σ1 σ2 : L2.St} (a : Chg is σ σ1) (b : Chg js σ1 σ2) : Chg (is ++ js) σ σ2 :=
  ⟨b.1.trans a.1, fun j hj => by
    rw [List.mem_append, not_or] at hj
    exact (b.2 j hj.2).trans (a.2 j hj.1)⟩
theorem Chg.set {σ : L2.St} {i : Nat} {v : Option V} : Chg [i] σ (σ.set i v) :=
  ⟨by rw [List.length_set], fun j hj => List.getElem?_set_ne (fun e : i = j => hj (by rw [e]; simp))⟩
theorem wipe_get {σ : L2.St} {j : Nat} : ∀ {vs : List Nat}, (wipe σ vs)[j]? = if j ∈ vs then (if j < σ.length then some none else none) else σ[j]?
  | [] => by simp [wipe]
  | v :: vs => by
    unfold wipe
    have ih := wipe_get (σ := σ) (j := j) (vs := vs)
    by_cases hv : v = j
    · subst hv
      by_cases hl : v < σ.length
      · rw [List.getElem?_set_self (by rw [wipe_length]; exact hl)]; simp [hl]
      · rw [List.getElem?_eq_none (by rw [List.length_set, wipe_length]; omega)]; simp [hl]
    · rw [List.getElem?_set_ne hv, ih]
      simp [Ne.symm hv]
theorem wipe_chg {σ σ' : L2.St} {is vs : List Nat} (h : Chg is σ σ') (hs : ∀ i ∈ is, i ∈ vs) : wipe σ' vs = wipe σ vs := by
  apply List.ext_getElem?
  intro j
  rw [wipe_get, wipe_get, h.1]
  by_cases hj : j ∈ vs
  · simp [hj]
  · simp only [hj, if_false]; exact h.2 j fun z => hj (hs j z)
theorem wipe_idem {σ : L2.St} {vs : List Nat} : wipe (wipe σ vs) vs = wipe σ vs := by
  apply List.ext_getElem?
  intro j
  rw [wipe_get, wipe_length]
  by_cases hj : j ∈ vs
  · simp only [hj, if_true]; rw [wipe_get]; simp [hj]
  · simp only [hj, if_false]

section
variable {T : Ent} {O M : List Addr} {env : PEnv} {σ : L2.St} {H H' : Hp}
theorem notOwn {i : Nat} {ds} (h : isOwn env i = false) : env[i]? ≠ some (some (SV.own ds)) := fun z => by
  unfold isOwn at h; rw [z] at h; cases h
theorem R.setv {i : Nat} {v : V} {sv : SV} (r : R T O M env σ H) (ho : isOwn env i = false) (rv : RepR T.K O H v sv) : R T O M (env.set i (some sv)) (σ.set i (some v)) H := by
  have nv : ∀ ds, sv ≠ .own ds := fun ds e => by subst e; exact rv
  have own_back : ∀ (j : Nat) (ds : List PyData), (env.set i (some sv))[j]? = some (some (.own ds)) → j ≠ i ∧ env[j]? = some (some (.own ds)) := fun j ds h => by
    by_cases hj : i = j
    · subst hj
      by_cases hl : i < env.length
      · rw [List.getElem?_set_self hl] at h; cases h; exact absurd rfl (nv ds)
      · rw [List.getElem?_eq_none (by rw [List.length_set]; omega)] at h; cases h
    · rw [List.getElem?_set_ne hj] at h; exact ⟨Ne.symm hj, h⟩
  have nd : ∀ ds, sv ≠ .dic ds := fun ds e => by subst e; exact rv
  have dic_back : ∀ (j : Nat) (ds : List (PyData × PyData)), (env.set i (some sv))[j]? = some (some (.dic ds)) → j ≠ i ∧ env[j]? = some (some (.dic ds)) := fun j ds h => by
    by_cases hj : i = j
    · subst hj
      by_cases hl : i < env.length
      · rw [List.getElem?_set_self hl] at h; cases h; exact absurd rfl (nd ds)
      · rw [List.getElem?_eq_none (by rw [List.length_set]; omega)] at h; cases h
    · rw [List.getElem?_set_ne hj] at h; exact ⟨Ne.symm hj, h⟩
  refine ⟨by rw [List.length_set, List.length_set]; exact r.len, fun j s h => ?_, fun j k a ds es h1 h2 h3 h4 => ?_, fun j k a ds es h1 h2 h3 h4 => ?_, r.live, r.sub, r.ent, r.mine, r.frame, fun p hp => ?_, r.tabs, r.tin⟩
  · by_cases hj : i = j
    · subst hj
      by_cases hl : i < env.length
      · rw [List.getElem?_set_self hl] at h; cases h
        refine ⟨v, List.getElem?_set_self (by rw [← r.len]; exact hl), ?_⟩
        cases sv with
        | own ds => exact absurd rfl (nv ds)
        | dic ds => exact absurd rfl (nd ds)
        | da d => exact rv
        | obj C fs => exact rv
      · rw [List.getElem?_eq_none (by rw [List.length_set]; omega)] at h; cases h
    · rw [List.getElem?_set_ne hj] at h
      obtain ⟨u, h1, h2⟩ := r.at_ _ _ h
      exact ⟨u, by rw [List.getElem?_set_ne hj]; exact h1, h2⟩
  · obtain ⟨n1, o1⟩ := own_back j ds h1
    obtain ⟨n2, o2⟩ := own_back k es h2
    rw [List.getElem?_set_ne (Ne.symm n1)] at h3
    rw [List.getElem?_set_ne (Ne.symm n2)] at h4
    exact r.apart j k a ds es o1 o2 h3 h4
  · obtain ⟨n1, o1⟩ := dic_back j ds h1
    obtain ⟨n2, o2⟩ := dic_back k es h2
    rw [List.getElem?_set_ne (Ne.symm n1)] at h3
    rw [List.getElem?_set_ne (Ne.symm n2)] at h4
    exact r.apartD j k a ds es o1 o2 h3 h4
  · obtain ⟨h1, ds, h2⟩ := r.pars p hp
    have hne : i ≠ p.1 := fun e => notOwn ho (by rw [e]; exact h2)
    exact ⟨by rw [List.getElem?_set_ne hne]; exact h1, ds, by rw [List.getElem?_set_ne hne]; exact h2⟩
end
def isDic (env : PEnv) (i : Nat) : Bool := match env[i]? with
  | some (some (.dic _)) => true
  | _ => false
def isOD (env : PEnv) (i : Nat) : Bool := isOwn env i || isDic env i
theorem od_own {env : PEnv} {vs : List Nat} (h : vs.all (fun i => !isOD env i) = true) : vs.all (fun i => !isOwn env i) = true := by
  rw [List.all_eq_true] at h ⊢
  intro x hx
  have := h x hx
  unfold isOD at this
  cases q : isOwn env x
  · rfl
  · rw [q] at this; cases this
theorem od_dic {env : PEnv} {vs : List Nat} (h : vs.all (fun i => !isOD env i) = true) : vs.all (fun i => !isDic env i) = true := by
  rw [List.all_eq_true] at h ⊢
  intro x hx
  have := h x hx
  unfold isOD at this
  cases q : isDic env x
  · rfl
  · rw [q, Bool.or_true] at this; cases this
section
variable {T : Ent} {O M : List Addr} {env : PEnv} {σ : L2.St} {H H' : Hp}
/-- slots forgotten -/
def wipeE (env : PEnv) (vs : List Nat) : PEnv := env.mapIdx fun j x => if j ∈ vs then none else x
theorem wipeE_get {vs : List Nat} {j : Nat} {s : SV} (h : (wipeE env vs)[j]? = some (some s)) : env[j]? = some (some s) ∧ j ∉ vs := by
  unfold wipeE at h
  rw [List.getElem?_mapIdx] at h
  cases q : env[j]? with
  | none => rw [q] at h; cases h
  | some x =>
    rw [q] at h
    simp only [Option.map_some] at h
    split at h
    · cases h
    · exact ⟨Option.some.inj h ▸ rfl, by assumption⟩
theorem R.wipe {vs : List Nat} (r : R T O M env σ H) (hv : vs.all (fun i => !isOD env i) = true) : R T O M (wipeE env vs) (L2.wipe σ vs) H := by
  have hv := od_own hv
  have keep : ∀ (j : Nat), j ∉ vs → (L2.wipe σ vs)[j]? = σ[j]? := fun j hj => by rw [wipe_get]; simp [hj]
  refine ⟨by unfold wipeE; rw [List.length_mapIdx, wipe_length]; exact r.len, fun j s h => ?_, fun j k a ds es h1 h2 h3 h4 => ?_, fun j k a ds es h1 h2 h3 h4 => ?_, r.live, r.sub, r.ent, r.mine, r.frame, fun p hp => ?_, r.tabs, r.tin⟩
  · obtain ⟨h1, h2⟩ := wipeE_get h
    obtain ⟨v, q1, q2⟩ := r.at_ _ _ h1
    exact ⟨v, by rw [keep j h2]; exact q1, q2⟩
  · obtain ⟨o1, n1⟩ := wipeE_get h1
    obtain ⟨o2, n2⟩ := wipeE_get h2
    rw [keep j n1] at h3
    rw [keep k n2] at h4
    exact r.apart j k a ds es o1 o2 h3 h4
  · obtain ⟨o1, n1⟩ := wipeE_get h1
    obtain ⟨o2, n2⟩ := wipeE_get h2
    rw [keep j n1] at h3
    rw [keep k n2] at h4
    exact r.apartD j k a ds es o1 o2 h3 h4
  · obtain ⟨h1, ds, h2⟩ := r.pars p hp
    have hne : p.1 ∉ vs := fun z => by
      have := List.all_eq_true.mp hv _ z
      unfold isOwn at this
      rw [h2] at this; cases this
    refine ⟨by rw [keep _ hne]; exact h1, ds, ?_⟩
    unfold wipeE
    rw [List.getElem?_mapIdx, h2]
    simp [hne]
/-- behind a block: the slots of before, the owned lists as they are now -/
def mergeE (old new : PEnv) : PEnv := List.zipWith (fun a b => match a with
  | some (.own _) => (match b with
    | some (.own es) => some (.own es)
    | _ => none)
  | some (.dic _) => (match b with
    | some (.dic es) => some (.dic es)
    | _ => none)
  | a => a) old new
theorem R.merge {vs : List Nat} {new : PEnv} {σ2 : L2.St} (r : R T O M env σ H) (r2 : R T O M new σ2 H') (f : Fr M H H') (hv : vs.all (fun i => !isOD env i) = true) (hw : L2.wipe σ2 vs = L2.wipe σ vs) : R T O M (mergeE env new) σ H' := by
  have hd := od_dic hv
  have hv := od_own hv
  have hl : new.length = env.length := by
    rw [r2.len, r.len, ← wipe_length σ2 vs, hw, wipe_length]
  have same : ∀ (j : Nat), j ∉ vs → σ2[j]? = σ[j]? := fun j hj => by
    have e : (L2.wipe σ2 vs)[j]? = (L2.wipe σ vs)[j]? := by rw [hw]
    rw [wipe_get, wipe_get] at e
    simpa [hj] using e
  have ec : Same (Pd.cut O H) (Pd.cut O H') := f.cut r.sub
  have own_v : ∀ (j : Nat) ds, env[j]? = some (some (.own ds)) → j ∉ vs := fun j ds h z => by
    have := List.all_eq_true.mp hv _ z
    unfold isOwn at this
    rw [h] at this; cases this
  have dic_v : ∀ (j : Nat) ds, env[j]? = some (some (.dic ds)) → j ∉ vs := fun j ds h z => by
    have := List.all_eq_true.mp hd _ z
    unfold isDic at this
    rw [h] at this; cases this
  have back : ∀ (j : Nat) s, (mergeE env new)[j]? = some (some s) → (∃ ds es, env[j]? = some (some (.own ds)) ∧ new[j]? = some (some (.own es)) ∧ s = .own es) ∨ (∃ ds es, env[j]? = some (some (.dic ds)) ∧ new[j]? = some (some (.dic es)) ∧ s = .dic es) ∨ (env[j]? = some (some s) ∧ (∀ ds, s ≠ .own ds) ∧ ∀ ds, s ≠ .dic ds) := fun j s h => by
    unfold mergeE at h
    rw [List.getElem?_zipWith] at h
    cases q : env[j]? with
    | none => rw [q] at h; cases h
    | some x =>
      cases q2 : new[j]? with
      | none => rw [q, q2] at h; cases h
      | some y =>
        rw [q, q2] at h
        simp only at h
        split at h
        · split at h
          · exact .inl ⟨_, _, rfl, rfl, (Option.some.inj (Option.some.inj h)).symm⟩
          · cases h
        · split at h
          · exact .inr (.inl ⟨_, _, rfl, rfl, (Option.some.inj (Option.some.inj h)).symm⟩)
          · cases h
        · rename_i hno hno2
          have hx : x = some s := Option.some.inj h
          exact .inr (.inr ⟨by rw [hx], fun ds e => hno ds (by rw [hx, e]), fun ds e => hno2 ds (by rw [hx, e])⟩)
  refine ⟨?_, fun j s h => ?_, fun j k a ds es h1 h2 h3 h4 => ?_, fun j k a ds es h1 h2 h3 h4 => ?_, r2.live, r.sub, r.ent, r.mine, r2.frame, fun p hp => ?_, r2.tabs, r.tin⟩
  · unfold mergeE; rw [List.length_zipWith, hl, Nat.min_self]; exact r.len
  · rcases back j s h with ⟨ds, es, o1, o2, rfl⟩ | ⟨ds, es, o1, o2, rfl⟩ | ⟨o1, o2, o3⟩
    · obtain ⟨v, q1, q2⟩ := r2.at_ _ _ o2
      exact ⟨v, by rw [← same j (own_v j ds o1)]; exact q1, q2⟩
    · obtain ⟨v, q1, q2⟩ := r2.at_ _ _ o2
      exact ⟨v, by rw [← same j (dic_v j ds o1)]; exact q1, q2⟩
    · obtain ⟨v, q1, q2⟩ := r.at_ _ _ o1
      refine ⟨v, q1, ?_⟩
      cases s with
      | own ds => exact absurd rfl (o2 ds)
      | dic ds => exact absurd rfl (o3 ds)
      | da d => exact RepR.mono (sv := .da d) ec q2
      | obj C fs => exact RepR.mono (sv := .obj C fs) ec q2
  · rcases back j _ h1 with ⟨_, _, o1, _, _⟩ | ⟨_, _, _, _, z⟩ | ⟨_, o2, _⟩
    · rcases back k _ h2 with ⟨_, _, o3, _, _⟩ | ⟨_, _, _, _, z⟩ | ⟨_, o4, _⟩
      · exact r.apart j k a _ _ o1 o3 h3 h4
      · cases z
      · exact absurd rfl (o4 es)
    · cases z
    · exact absurd rfl (o2 ds)
  · rcases back j _ h1 with ⟨_, _, _, _, z⟩ | ⟨_, _, o1, _, _⟩ | ⟨_, _, o2⟩
    · cases z
    · rcases back k _ h2 with ⟨_, _, _, _, z⟩ | ⟨_, _, o3, _, _⟩ | ⟨_, _, o4⟩
      · cases z
      · exact r.apartD j k a _ _ o1 o3 h3 h4
      · exact absurd rfl (o4 es)
    · exact absurd rfl (o2 ds)
  · obtain ⟨h1, ds, h2⟩ := r.pars p hp
    obtain ⟨_, es, h4⟩ := r2.pars p hp
    refine ⟨h1, es, ?_⟩
    unfold mergeE
    rw [List.getElem?_zipWith, h2, h4]
end

/-! ### targets -/
def PDG (X : Cx) (tg : Expr) (is : List Nat) (g : SV → Mo Unit) : Prop := ∃ t, PG X tg t ∧ ∀ (T : Ent) (O M : List Addr) (env env' : PEnv) (σ : L2.St) (H : Hp) (v : V) (d : SV) (Q : L2.St → Hp → Prop), T.K = X.K → R T O M env σ H → RepR X.K O H v d →
  g d env = some (.ok () env') → (∀ σ', R T O M env' σ' H → Chg is σ σ' → Q σ' H) → t v σ H Q
def PDGs (X : Cx) (tgs : List Expr) (is : List Nat) (g : List PyData → Mo Unit) : Prop := ∃ t, PGs X tgs t ∧ ∀ (T : Ent) (O M : List Addr) (env env' : PEnv) (σ : L2.St) (H : Hp) (vs : List V) (ds : List PyData) (Q : L2.St → Hp → Prop), T.K = X.K → R T O M env σ H → DpAll X.K (cut O H) vs ds →
  g ds env = some (.ok () env') → (∀ σ', R T O M env' σ' H → Chg is σ σ' → Q σ' H) → t vs σ H Q
def setM (i : Nat) (sv : SV) : Mo Unit := fun env => if (isOwn env i || decide (env.length ≤ i)) = true then none else some (.ok () (env.set i (some sv)))
theorem setM_some {i sv} {env : PEnv} {o} (h : setM i sv env = some o) : isOwn env i = false ∧ i < env.length ∧ o = .ok () (env.set i (some sv)) := by
  unfold setM at h
  split at h
  · cases h
  · rename_i hn
    simp only [Bool.or_eq_true, decide_eq_true_eq, not_or, Bool.not_eq_true, Nat.not_le] at hn
    exact ⟨hn.1, hn.2, (Option.some.inj h).symm⟩
section
variable {X : Cx} {E : Wish} {pos : Pos}
theorem pdg_name (i : Nat) {x : Str} (h : PG X (.Name x pos) (gName i)) : PDG X (.Name x pos) [i] (setM i) := by
  refine ⟨_, h, fun T O M env env' σ H v d Q hK r rv e q => ?_⟩
  obtain ⟨h1, h2, e'⟩ := setM_some e
  cases e'
  exact q _ (r.setv h1 (by rw [hK]; exact rv)) Chg.set
def nilG (ds : List PyData) : Mo Unit := fun env => if ds.isEmpty = true then some (.ok () env) else none
theorem pdgs_nil : PDGs X [] [] nilG := by
  refine ⟨_, pgs_nil, fun T O M env env' σ H vs ds Q hK r rv e q => ?_⟩
  unfold nilG at e
  split at e
  · rename_i hd
    cases e
    have : ds = [] := List.isEmpty_iff.mp hd
    subst this
    cases rv
    exact ⟨rfl, q σ r Chg.refl⟩
  · cases e
def consG (g : SV → Mo Unit) (gs : List PyData → Mo Unit) : List PyData → Mo Unit
  | d :: ds => bindM (g (.da d)) fun _ => gs ds
  | [] => fun _ => none
theorem pdgs_cons {e : Expr} {es : List Expr} {is js : List Nat} {g : SV → Mo Unit} {gs : List PyData → Mo Unit} (h1 : PDG X e is g) (h2 : PDGs X es js gs) (hs : (assignEach (e :: es) X.env).map (·.2) = assign e X.env :: (assignEach es X.env).map (·.2) := by rfl) :
    PDGs X (e :: es) (is ++ js) (consG g gs) := by
  obtain ⟨t, a1, a2⟩ := h1
  obtain ⟨u, b1, b2⟩ := h2
  refine ⟨_, pgs_cons a1 b1 hs, fun T O M env env' σ H vs ds Q hK r rv e q => ?_⟩
  cases rv with
  | nil => cases e
  | cons rd rt =>
    rcases bind_split e with ⟨C, fs, _, z⟩ | ⟨_, e1, h1, h2⟩
    · cases z
    · exact ⟨_, _, rfl, a2 T O M env e1 σ H _ (.da _) _ hK r rd h1 fun σ' r' c1 => b2 T O M e1 env' σ' H _ _ Q hK r' rt h2 fun σ2 r2 c2 => q σ2 r2 (c1.trans c2)⟩
def tupG (n : Nat) (gs : List PyData → Mo Unit) : SV → Mo Unit
  | .da (.tuple ds) => if ds.length = n then gs ds else fun _ => none
  | _ => fun _ => none
theorem pdg_tup {es : List Expr} {k : Nat} {is : List Nat} {gs : List PyData → Mo Unit} (hc : X.calm = true) (h : PDGs X es is gs)
    (mk : ∀ t, PGs X es t → PG X (.Tuple es k pos) (gTup X.K es.length t)) : PDG X (.Tuple es k pos) is (tupG es.length gs) := by
  obtain ⟨t, h1, h2⟩ := h
  refine ⟨_, mk t h1, fun T O M env env' σ H v d Q hK r rv e q => ?_⟩
  unfold tupG at e
  split at e
  · split at e
    · rename_i hl
      obtain ⟨a, xs, rfl, h3, h4⟩ := Dp.isTup rv
      exact ⟨a, xs, rfl, Same.seqT cut_le h3, by rw [DpAll.length h4]; exact hl, h2 T O M env env' σ H xs _ Q hK r h4 e q⟩
    · cases e
  · cases e
def tgOf (K : PySem.W.Frag) (is : List Nat) (g : SV → Mo Unit) : TG := fun v σ H Q => ∃ T O M env env' d, T.K = K ∧ R T O M env σ H ∧ RepR K O H v d ∧ g d env = some (.ok () env') ∧ ∀ σ', R T O M env' σ' H → Chg is σ σ' → Q σ' H
theorem PDG.uni {tg : Expr} {is g} (h : PDG X tg is g) : PG X tg (tgOf X.K is g) := by
  obtain ⟨t, h1, h2⟩ := h
  exact ⟨fun pins s σ H v u Q I r ⟨T, O, M, env, env', d, hK, rr, rv, e, q⟩ => h1.run pins s σ H v u Q I r (h2 T O M env env' σ H v d Q hK rr rv e q)⟩

/-! ### what is walked -/
structure ItD (K : PySem.W.Frag) (O : List Addr) (H1 : Hp) (J : It) (ds : List PyData) : Prop where
  ex : ∃ (G : Hp → Prop) (Y : Nat → Hp → V → Hp → Prop), Walk J ds.length G Y ∧ (∀ O' H', Same (cut O H1) (cut O' H') → G H') ∧
    ∀ (O' : List Addr) (i : Nat) (H : Hp) (x : V) (H' : Hp) (d : PyData), Live O' H → Same (cut O H1) (cut O' H) → Y i H x H' → ds[i]? = some d → Same H H' ∧ Dp K (cut O' H') x d
def PostI (T : Ent) (E : Wish) (O M : List Addr) (σ : L2.St) (H : Hp) (Rk : It → Hp → Prop) : Out (List PyData) → Prop
  | .ok ds env' => ∀ J H', R T O M env' σ H' → Fr M H H' → ItD T.K O H' J ds → Rk J H'
  | .exc C fs => XP T E C fs
def SatI (K : PySem.W.Frag) (E : Wish) (t : TI) (f : Mo (List PyData)) : Prop := ∀ (T : Ent) (O M : List Addr) (env : PEnv) (σ : L2.St) (H : Hp) (Rk : It → Hp → Prop) (o : Out (List PyData)), KT T K E → R T O M env σ H → f env = some o → PostI T E O M σ H Rk o → t σ H Rk
def PDI (X : Cx) (E : Wish) (tg iter : Expr) (f : Mo (List PyData)) : Prop := ∃ t, PI X tg iter t ∧ SatI X.K E t f
theorem PostI.exc {T : Ent} {E : Wish} {O M : List Addr} {σ : L2.St} {H : Hp} {Rk} {o : Out (List PyData)} (p : PostI T E O M σ H Rk o) : ∀ C fs, o = .exc C fs → XP T E C fs := by
  intro C fs e; subst e; exact p
def listOf : SV → Option (List PyData)
  | .da (.list ds) => some ds
  | _ => none
def tupOf : SV → Option (List PyData)
  | .da (.tuple ds) => some ds
  | _ => none
def liM (f : Mo SV) : Mo (List PyData) := bindM f fun x => liftO (listOf x)
def tiM (f : Mo SV) : Mo (List PyData) := bindM f fun x => liftO (tupOf x)
theorem itd_list {K : PySem.W.Frag} {O : List Addr} {H : Hp} {a : Addr} {xs : List V} {ds : List PyData} (h1 : SqL K (cut O H) a xs) (h2 : DpAll K (cut O H) xs ds) : ItD K O H (Itl K a) ds := by
  refine ⟨_, _, (DpAll.length h2) ▸ walk_list (a := a) (xs := xs), fun O' H' s => cut_le.seq (s.seq h1), fun O' i H0 x H' d l s y e => ?_⟩
  obtain ⟨rfl, hx⟩ := y
  obtain ⟨d', e', hd⟩ := DpAll.getV h2 hx
  rw [e] at e'; cases e'
  exact ⟨Same.refl _, Dp.mono s _ _ hd⟩
theorem itd_tup {K : PySem.W.Frag} {O : List Addr} {H : Hp} {a : Addr} {xs : List V} {ds : List PyData} (h1 : SqT K (cut O H) a xs) (h2 : DpAll K (cut O H) xs ds) : ItD K O H (Itt K a) ds := by
  refine ⟨_, _, (DpAll.length h2) ▸ walk_tup (a := a) (xs := xs), fun O' H' s => Same.seqT cut_le (Same.seqT s h1), fun O' i H0 x H' d l s y e => ?_⟩
  obtain ⟨rfl, hx⟩ := y
  obtain ⟨d', e', hd⟩ := DpAll.getV h2 hx
  rw [e] at e'; cases e'
  exact ⟨Same.refl _, Dp.mono s _ _ hd⟩
theorem pdi_list {tg iter : Expr} {f : Mo SV} (h : PDE X E iter f) : PDI X E tg iter (liM f) := by
  obtain ⟨t, h1, h2⟩ := h
  refine ⟨_, pi_list h1, fun T O M env σ H Rk o hK rr ee p => ?_⟩
  refine h2.bind (Q := fun x H1 => ∃ a, x = .ref a ∧ (∃ xs, SqL X.K H1 a xs) ∧ Rk (Itl X.K a) H1) hK rr ee p.exc fun y e2 v H2 ek r2 f2 p2 => ?_
  obtain ⟨c, ec, rfl⟩ := lift_split ek
  unfold listOf at ec
  split at ec
  · cases ec
    obtain ⟨a, xs, rfl, h3, h4⟩ := Dp.isList p2
    rw [hK.eq] at h3 h4
    exact ⟨a, rfl, ⟨xs, cut_le.seq h3⟩, p _ H2 r2 f2 (by rw [hK.eq]; exact itd_list h3 h4)⟩
  · cases ec
theorem pdi_tup {tg iter : Expr} {f : Mo SV} (h : PDE X E iter f) : PDI X E tg iter (tiM f) := by
  obtain ⟨t, h1, h2⟩ := h
  refine ⟨_, pi_tup h1, fun T O M env σ H Rk o hK rr ee p => ?_⟩
  refine h2.bind (Q := fun x H1 => ∃ a, x = .ref a ∧ (∃ xs, SqT X.K H1 a xs) ∧ Rk (Itt X.K a) H1) hK rr ee p.exc fun y e2 v H2 ek r2 f2 p2 => ?_
  obtain ⟨c, ec, rfl⟩ := lift_split ek
  unfold tupOf at ec
  split at ec
  · cases ec
    obtain ⟨a, xs, rfl, h3, h4⟩ := Dp.isTup p2
    rw [hK.eq] at h3 h4
    exact ⟨a, rfl, ⟨xs, Same.seqT cut_le h3⟩, p _ H2 r2 f2 (by rw [hK.eq]; exact itd_tup h3 h4)⟩
  · cases ec
/-! ranges -/
def rangeL (lo : Int) (n : Nat) : List PyData := (List.range n).map fun i : Nat => PyData.int (lo + i)
theorem itd_range {K : PySem.W.Frag} {O : List Addr} {H : Hp} {lo : Int} {n : Nat} : ItD K O H (Itr lo n) (rangeL lo n) := by
  have hl : (rangeL lo n).length = n := by unfold rangeL; rw [List.length_map, List.length_range]
  refine ⟨fun _ => True, YFn fun i => .int (lo + i), by rw [hl]; exact walk_range, fun _ _ _ => True.intro, fun O' i H0 x H' d l s y e => ?_⟩
  obtain ⟨rfl, rfl⟩ := y
  refine ⟨Same.refl _, ?_⟩
  unfold rangeL at e
  rw [List.getElem?_map] at e
  cases q : (List.range n)[i]? with
  | none => rw [q] at e; cases e
  | some j =>
    rw [q] at e
    have hj : j = i := by
      have := List.getElem?_range (i := i) (n := n) (by
        have h := (List.getElem?_eq_some_iff.mp q).1
        rwa [List.length_range] at h)
      rw [this] at q; exact (Option.some.inj q).symm
    subst hj
    cases e
    exact .int _
def rangeD1 : List SV → Option (List PyData)
  | [.da (.int j)] => if -1000000 ≤ j ∧ j ≤ 1000000 then some (rangeL 0 j.toNat) else none
  | _ => none
def rg1M (f : Mo (List Arg)) : Mo (List PyData) := bindM f fun as => liftO ((vals as).bind rangeD1)
theorem pdi_range1 {tg a : Expr} {p : Pos} {f : Mo (List Arg)} (hg : Gl X "range") (hm : X.mg "range" = none) (ha : PDA X E [a] f) (hs : starEach [a] X.env = [(false, eval a X.env)] := by rfl) : PDI X E tg (.Call (.Name "range" p) [a] [] pos) (rg1M f) := by
  obtain ⟨t, h1, h2⟩ := ha
  refine ⟨_, pi_range1 hg hm h1 hs, fun T O M env σ H Rk o hK rr ee p => ?_⟩
  refine h2.bind (Q := fun vs H1 => ∃ j : Int, vs = [.int j] ∧ -(2 ^ 62) ≤ j ∧ j < 2 ^ 62 ∧ Rk (Itr 0 j.toNat) H1) hK rr ee p.exc fun y e2 us H2 ek2 r2 f2 p2 => ?_
  obtain ⟨c, ec, rfl⟩ := lift_split ek2
  cases q : vals y with
  | none => rw [q] at ec; cases ec
  | some svs =>
    rw [q] at ec
    have hv := vals_rep p2 q
    replace ec : rangeD1 svs = some c := ec
    unfold rangeD1 at ec
    split at ec
    · rename_i j
      split at ec
      · rename_i hj
        cases ec
        obtain ⟨a, rfl, ra⟩ := paired1 hv
        exact ⟨j, by rw [Dp.isInt ra], by omega, by omega, p _ H2 r2 f2 itd_range⟩
      · cases ec
    · cases ec
end
end Pd
end
section
set_option Elab.async false
set_option linter.all false
set_option maxRecDepth 100000
set_option maxHeartbeats 4000000
namespace Pd
open PySem PySem.Spec PyProof.Rows L2

section
variable {T : Ent} {O M : List Addr} {env : PEnv} {σ : L2.St} {H H' : Hp}
/-- one more owned address, new -/
theorem R.addO {a : Addr} {o : HO} (r : R T O M env σ H) (h : H a = none) : R T (a :: O) M env σ (upd H a o) := by
  have ec : Same (Pd.cut O H) (Pd.cut (a :: O) (upd H a o)) := cut_same (fun b x e _ => Pd.same_upd h b x e) fun b x e z => by
    rcases List.mem_cons.mp z with rfl | z
    · rw [h] at e; cases e
    · exact z
  refine ⟨r.len, fun j s q => ?_, r.apart, r.apartD, fun l hl z => ?_, fun l hl => List.mem_cons_of_mem _ (r.sub l hl), fun l hl => List.mem_cons_of_mem _ (r.ent l hl), r.mine, r.frT (Fr.of (Pd.same_upd h)), r.pars, r.tabs.ext (Pd.same_upd h), r.tin⟩
  · obtain ⟨v, q1, q2⟩ := r.at_ _ _ q
    refine ⟨v, q1, ?_⟩
    cases s with
    | da d => exact RepR.mono (sv := .da d) ec q2
    | obj C fs => exact RepR.mono (sv := .obj C fs) ec q2
    | own ds =>
      obtain ⟨l, vs, w1, w2, w3, w4⟩ := q2
      exact ⟨l, vs, w1, w2, Pd.same_upd h _ _ w3, DpAll.mono ec _ _ w4⟩
    | dic ds =>
      obtain ⟨l, xs, w, w1, w2, w3, w4⟩ := q2
      exact ⟨l, xs, w, w1, w2, Pd.same_upd h _ _ w3, w4.mono ec⟩
  · rcases List.mem_cons.mp hl with rfl | hl
    · rw [upd_same] at z; cases z
    · cases q : H l with
      | none => exact r.live l hl q
      | some o' => rw [Pd.same_upd h _ _ q] at z; cases z
/-- an owned address of no slot is let go -/
theorem R.delO {a : Addr} (r : R T (a :: O) M env σ H) (hM : ∀ l ∈ M, l ∈ O) (hT : ∀ l ∈ T.O, l ∈ O) : R T O M env σ H := by
  have ec : Same (Pd.cut (a :: O) H) (Pd.cut O H) := cut_same (fun _ _ e _ => e) fun b x e z => List.mem_cons_of_mem _ z
  refine ⟨r.len, fun j s q => ?_, r.apart, r.apartD, fun l hl => r.live l (List.mem_cons_of_mem _ hl), hM, hT, r.mine, r.frame, r.pars, r.tabs, r.tin⟩
  obtain ⟨v, q1, q2⟩ := r.at_ _ _ q
  refine ⟨v, q1, ?_⟩
  cases s with
  | da d => exact RepR.mono (sv := .da d) ec q2
  | obj C fs => exact RepR.mono (sv := .obj C fs) ec q2
  | own ds =>
    obtain ⟨l, vs, w1, w2, w3, w4⟩ := q2
    exact ⟨l, vs, w1, w2, w3, DpAll.mono ec _ _ w4⟩
  | dic ds =>
    obtain ⟨l, xs, w, w1, w2, w3, w4⟩ := q2
    exact ⟨l, xs, w, w1, w2, w3, w4.mono ec⟩
/-- an owned address of no slot is written -/
theorem R.putO2 {a : Addr} {o : HO} (r : R T O M env σ H) (ha : a ∈ O) (hM : a ∉ M) (hT : ∀ x, T.H a = some x → a ∈ T.par.map (·.2)) (hl : (∀ ps, H a ≠ some (.tbl ps)) ∧ ∀ φ, H a ≠ some (.ext φ)) : R T O M env σ (upd H a o) := by
  have ec : Same (Pd.cut O H) (Pd.cut O (upd H a o)) := cut_same (fun b x e n => by rw [upd_ne (fun z => n (by rw [z]; exact ha))]; exact e) fun _ _ _ z => z
  refine ⟨r.len, fun j s q => ?_, r.apart, r.apartD, fun l hl z => ?_, r.sub, r.ent, r.mine, fun b x e n n2 => ?_, r.pars, tabs_but2 r.tabs hl (fun b x e n => by rw [upd_ne n]; exact e), r.tin⟩
  · obtain ⟨v, q1, q2⟩ := r.at_ _ _ q
    refine ⟨v, q1, ?_⟩
    cases s with
    | da d => exact RepR.mono (sv := .da d) ec q2
    | obj C fs => exact RepR.mono (sv := .obj C fs) ec q2
    | own ds =>
      obtain ⟨l, vs, w1, w2, w3, w4⟩ := q2
      exact ⟨l, vs, w1, w2, by rw [upd_ne (fun z => hM (by rw [← z]; exact w2))]; exact w3, DpAll.mono ec _ _ w4⟩
    | dic ds =>
      obtain ⟨l, xs, w, w1, w2, w3, w4⟩ := q2
      exact ⟨l, xs, w, w1, w2, by rw [upd_ne (fun z => hM (by rw [← z]; exact w2))]; exact w3, w4.mono ec⟩
  · by_cases e : l = a
    · subst e; rw [upd_same] at z; cases z
    · rw [upd_ne e] at z; exact r.live l hl z
  · by_cases e2 : b = a
    · subst e2; exact absurd (hT x e) n
    · rw [upd_ne e2]; exact r.frame b x e n n2
theorem R.putO {a : Addr} {o : HO} (r : R T O M env σ H) (ha : a ∈ O) (hM : a ∉ M) (hT : ∀ x, T.H a = some x → a ∈ T.par.map (·.2)) (hl : ∃ vs, H a = some (.lst vs)) : R T O M env σ (upd H a o) := by
  obtain ⟨vs, hl⟩ := hl
  exact r.putO2 ha hM hT ⟨fun ps z => (by rw [hl] at z; cases z), fun φ z => (by rw [hl] at z; cases z)⟩
end

/-! ### list comprehensions -/
def lcGo (vs : List Nat) (g : SV → Mo Unit) (tt : Mo Bool) (te : Mo SV) : List PyData → List PyData → Mo (List PyData)
  | [], acc => retM acc
  | d :: ds, acc => fun env => if vs.all (fun i => !isOD env i) = true then
      (match g (.da d) (wipeE env vs) with
      | some (.ok _ e1) => (match tt e1 with
        | some (.ok true e2) => (match te e2 with
          | some (.ok (.da y) e3) => lcGo vs g tt te ds (acc ++ [y]) (mergeE env e3)
          | _ => none)
        | some (.ok false e2) => lcGo vs g tt te ds acc (mergeE env e2)
        | _ => none)
      | _ => none) else none
def lcM (vs : List Nat) (fi : Mo (List PyData)) (g : SV → Mo Unit) (tt : Mo Bool) (te : Mo SV) : Mo SV :=
  bindM fi fun ds => bindM (liftO (if ds.length ≤ LIM then some ds else none)) fun ds => bindM (lcGo vs g tt te ds []) fun ys => retM (.da (.list ys))
theorem lcGo_split {vs g tt te d ds acc env} {o : Out (List PyData)} (h : lcGo vs g tt te (d :: ds) acc env = some o) : vs.all (fun i => !isOD env i) = true ∧ ∃ e1 b e2, g (.da d) (wipeE env vs) = some (.ok () e1) ∧ tt e1 = some (.ok b e2) ∧
    ((b = true ∧ ∃ y e3, te e2 = some (.ok (.da y) e3) ∧ lcGo vs g tt te ds (acc ++ [y]) (mergeE env e3) = some o) ∨ (b = false ∧ lcGo vs g tt te ds acc (mergeE env e2) = some o)) := by
  unfold lcGo at h
  split at h
  · rename_i hv
    refine ⟨hv, ?_⟩
    split at h
    · rename_i e1 h1
      split at h
      · rename_i e2 h2
        split at h
        · rename_i y e3 h3
          exact ⟨e1, true, e2, h1, h2, .inl ⟨rfl, y, e3, h3, h⟩⟩
        · cases h
      · rename_i e2 h2
        exact ⟨e1, false, e2, h1, h2, .inr ⟨rfl, h⟩⟩
      · cases h
    · cases h
  · cases h
theorem lcGo_ok {vs g tt te} : ∀ {ds acc env} {o : Out (List PyData)}, lcGo vs g tt te ds acc env = some o → ∃ ys e, o = .ok ys e
  | [], acc, env, o, h => ⟨acc, env, (Option.some.inj h).symm⟩
  | d :: ds, acc, env, o, h => by
    obtain ⟨_, e1, b, e2, _, _, h⟩ := lcGo_split h
    rcases h with ⟨_, y, e3, _, h⟩ | ⟨_, h⟩
    · exact lcGo_ok h
    · exact lcGo_ok h
section
variable {X : Cx} {E : Wish} {pos : Pos}
theorem lc_sat {K : PySem.W.Frag} {wi : TI} {fi : Mo (List PyData)} {is vs : List Nat} {g : SV → Mo Unit} {tt : Mo Bool} {te : Mo SV} (hi : SatI K E wi fi) (hsub : ∀ i ∈ is, i ∈ vs) : SatE K E (tLc wi (tgOf K is g) (tOfT K E.no tt) (tOf K E.no te) vs) (lcM vs fi g tt te) := by
  intro T O M env σ H Q o hK rr ee p
  rcases bind_split ee with ⟨C, fs, h1, rfl⟩ | ⟨ds, env1, h1, h2⟩
  · exact hi T O M env σ H _ (.exc C fs) hK rr h1 p
  refine hi T O M env σ H _ (.ok ds env1) hK rr h1 fun J H1 r1 f1 it => ?_
  rcases bind_split h2 with ⟨C, fs, h3, _⟩ | ⟨ds', e', h3, h4⟩
  · obtain ⟨_, _, z⟩ := lift_split h3; cases z
  obtain ⟨_, h5, z⟩ := lift_split h3
  cases z
  split at h5
  · rename_i hlim
    cases h5
    rcases bind_split h4 with ⟨C, fs, h6, _⟩ | ⟨ys, envE, h6, h7⟩
    · obtain ⟨_, _, z⟩ := lcGo_ok h6; cases z
    cases h7
    intro D hD
    obtain ⟨G, Y, wk, hG, hY⟩ := it.ex
    have hDO : D ∉ O := r1.new hD
    have hDM : D ∉ M := fun z => hDO (r1.sub D z)
    have hDT : ∀ x, T.H D = some x → D ∈ T.par.map (·.2) := fun x e => by
      by_cases hp : D ∈ T.par.map (·.2)
      · exact hp
      · by_cases ht : D ∈ T.tbs.map (·.1)
        · obtain ⟨ps, e2⟩ := tab_some r1.tabs ht
          rw [hD] at e2; cases e2
        · have := r1.frame D x e hp ht
          rw [hD] at this; cases this
    refine lc_it wk (fun i H2 => ∃ env2 acc accV, lcGo vs g tt te (ds.drop i) acc env2 = some (.ok ys envE) ∧ R T (D :: O) M env2 σ H2 ∧ H2 D = some (.lst accV) ∧ DpAll T.K (cut (D :: O) H2) accV acc ∧ acc.length ≤ i ∧
        Same (cut O H1) (cut (D :: O) H2) ∧ Fr M H1 H2) ?_ (fun i H2 _ ⟨env2, acc, accV, _, _, _, _, _, s, _⟩ => hG _ _ s) (fun i x H2 H3 hlt hP hy => ?_) fun H2 hP => ?_
    · refine ⟨env1, [], [], h6, r1.addO hD, upd_same, .nil, Nat.zero_le _, ?_, Fr.of (same_upd hD)⟩
      exact cut_same (fun b x e _ => same_upd hD b x e) fun b x e z => by
        rcases List.mem_cons.mp z with rfl | z
        · rw [hD] at e; cases e
        · exact z
    · obtain ⟨env2, acc, accV, hgo, r2, hDl, hacc, hal, hs, hf⟩ := hP
      have hd : ds[i]? = some ds[i] := List.getElem?_eq_getElem hlt
      rw [List.drop_eq_getElem_cons hlt] at hgo
      obtain ⟨hv, e1, b, e2, g1, g2, g3⟩ := lcGo_split hgo
      obtain ⟨s23, hx⟩ := hY (D :: O) i H2 x H3 ds[i] r2.live hs hy hd
      have r3 := r2.same s23
      refine ⟨T, D :: O, M, wipeE env2 vs, e1, .da ds[i], hK.eq, r3.wipe hv, by rw [← hK.eq]; exact hx, g1, fun σ' r' ch => ?_⟩
      have hw : L2.wipe σ' vs = L2.wipe σ vs := (wipe_chg ch hsub).trans wipe_idem
      refine ⟨hw, T, D :: O, M, e1, .ok b e2, hK.no, r', g2, fun H4 r4 f4 => ?_⟩
      have hD4 : H4 D = some (.lst accV) := f4 _ _ (s23 _ _ hDl) hDM
      have fr4 : Fr M H2 H4 := (Fr.of s23).trans f4
      have sub' : ∀ l ∈ M, l ∈ D :: O := fun l hl => List.mem_cons_of_mem _ (r1.sub l hl)
      rcases g3 with ⟨rfl, y, e3, g4, g5⟩ | ⟨rfl, g5⟩
      · dsimp only
        rw [if_pos rfl]
        refine ⟨T, D :: O, M, e2, .ok (.da y) e3, hK.no, r4, g4, fun v H5 r5 f5 rp => ?_⟩
        have hD5 : H5 D = some (.lst accV) := f5 _ _ hD4 hDM
        have fr5 : Fr M H2 H5 := fr4.trans f5
        refine ⟨accV, hD5, ?_, mergeE env2 e3, acc ++ [y], accV ++ [v], g5, ?_, upd_same, ?_, ?_, ?_, ?_⟩
        · rw [DpAll.length hacc]
          exact Nat.lt_of_lt_of_le (Nat.lt_of_le_of_lt hal hlt) (lim_le hlim)
        · exact (r2.merge r5 fr5 hv hw).putO List.mem_cons_self hDM hDT ⟨accV, hD5⟩
        · have ec : Same (cut (D :: O) H5) (cut (D :: O) (upd H5 D (.lst (accV ++ [v])))) := cut_same (fun c o e n => by rw [upd_ne (fun z => n (by rw [z]; exact List.mem_cons_self))]; exact e) fun _ _ _ z => z
          exact DpAll.append (DpAll.mono ec _ _ (DpAll.mono (fr5.cut sub') _ _ hacc)) (.cons (Dp.mono ec _ _ rp) .nil)
        · rw [List.length_append]; simp; exact hal
        · refine Same.trans (hs.trans (fr5.cut sub')) ?_
          exact cut_same (fun c o e n => by rw [upd_ne (fun z => n (by rw [z]; exact List.mem_cons_self))]; exact e) fun _ _ _ z => z
        · exact fun c o e n => by
            rw [upd_ne (fun z => by rw [z, hD] at e; cases e)]
            exact (hf.trans fr5) c o e n
      · dsimp only
        rw [if_neg (by decide)]
        exact ⟨mergeE env2 e2, acc, accV, g5, r2.merge r4 fr4 hv hw, hD4, DpAll.mono (fr4.cut sub') _ _ hacc, Nat.le_succ_of_le hal, hs.trans (fr4.cut sub'), hf.trans fr4⟩
    · obtain ⟨env2, acc, accV, hgo, r2, hDl, hacc, hal, hs, hf⟩ := hP
      rw [List.drop_length] at hgo
      cases hgo
      have rE : R T O M envE σ H2 := r2.delO r1.sub r1.ent
      refine p _ H2 rE (f1.trans hf) ?_
      exact Dp.lst (.inl (.inl (cut_of hDl hDO))) (DpAll.mono (cut_same (fun _ _ e _ => e) fun _ _ _ z => List.mem_cons_of_mem _ z) _ _ hacc)
  · cases h5
def PDTs (X : Cx) (E : Wish) (ifs : List Expr) (f : Mo Bool) : Prop := ∃ t, PTs X ifs t ∧ SatT X.K E t f
theorem pdts_nil : PDTs X E [] (retM true) := ⟨_, pts_nil, fun T O M env σ H Q o hK r e p => by cases e; exact p H r Fr.refl⟩
theorem pdts_one {c : Expr} {f : Mo Bool} (h : PDT X E c f) : PDTs X E [c] f := by
  obtain ⟨t, h1, h2⟩ := h
  exact ⟨t, pts_one h1, h2⟩
theorem PDTs.uni {e : List Expr} {f : Mo Bool} (h : PDTs X E e f) : PTs X e (tOfT X.K E f) := by
  obtain ⟨t, h1, h2⟩ := h
  exact ⟨fun pins s σ H Q I ⟨T, O, M, env, o, hK, r, e, p⟩ => h1.run pins s σ H Q I (h2 T O M env σ H Q o hK r e p)⟩
theorem pd_lc {elt tg iter : Expr} {ifs : List Expr} {scope : Scope} {own : List (Str × Nat)} {fi : Mo (List PyData)} {is : List Nat} {g : SV → Mo Unit} {tt : Mo Bool} {te : Mo SV} (hc : X.calm = true) (hN : X.N.Nodup) (hi : PDI X E tg iter fi) (ok : BlkOk X.N X.env.scope scope own)
    (hg : ∀ (s : Shared) (H : Hp) (C : Addr) (cl : List (Str × Addr)) (fp : List Addr), PDG (X.blk s H scope (compEnvC scope cl C X.env) fp) tg is g) (ht : ∀ (s : Shared) (H : Hp) (C : Addr) (cl : List (Str × Addr)) (fp : List Addr), PDTs (X.blk s H scope (compEnvC scope cl C X.env) fp) E.no ifs tt)
    (he : ∀ (s : Shared) (H : Hp) (C : Addr) (cl : List (Str × Addr)) (fp : List Addr), PDE (X.blk s H scope (compEnvC scope cl C X.env) fp) E.no elt te) (hsub : ∀ i ∈ is, i ∈ own.map (·.2) := by decide) (hs : ∀ x, foldedSetIterable iter X.env x = pure x := by intro _; rfl) :
    PDE X E (.ListComp elt [⟨tg, iter, ifs, 0⟩] scope pos) (lcM (own.map (·.2)) fi g tt te) := by
  obtain ⟨wi, i1, i2⟩ := hi
  exact ⟨_, pe_lc hc hN i1 ok (fun s H C cl fp => (hg s H C cl fp).uni) (fun s H C cl fp => (ht s H C cl fp).uni) (fun s H C cl fp => (he s H C cl fp).uni) hs, lc_sat i2 hsub⟩

/-! ### statements -/
inductive SOut where
  | nx (env : PEnv)
  | ret (d : SV) (env : PEnv)
  | bk (env : PEnv)
  | ct (env : PEnv)
  | exc (C : Addr) (fs : List (Str × PyData))
abbrev MoS := PEnv → Option SOut
def After (T : Ent) (O : List Addr) (H : Hp) (env' : PEnv) (N : L2.St → Hp → Prop) : Prop := ∀ O' M' σ' H', R T O' M' env' σ' H' → Same (cut O H) (cut O' H') → N σ' H'
def PostS (T : Ent) (E : Wish) (O : List Addr) (H : Hp) (D : Ends) : SOut → Prop
  | .nx env' => After T O H env' D.nx
  | .ret d env' => ∀ O' M' σ' H' v, R T O' M' env' σ' H' → Same (cut O H) (cut O' H') → RepR T.K O' H' v d → D.rt v H'
  | .bk env' => After T O H env' D.bk
  | .ct env' => After T O H env' D.ct
  | .exc C fs => XP T E C fs
def SatS (K : PySem.W.Frag) (np : Nat) (E : Wish) (t : TS) (g : MoS) : Prop := ∀ (T : Ent) (O M : List Addr) (env : PEnv) (σ : L2.St) (H : Hp) (D : Ends) (o : SOut), KT T K E → ((∀ p ∈ T.par, p.1 < np) ∧ ∀ l ∈ T.O, T.H l ≠ none) → R T O M env σ H → g env = some o → PostS T E O H D o → t D σ H
def PDS (X : Cx) (np : Nat) (E : Wish) (st : Stmt) (g : MoS) : Prop := ∃ t, PS X st t ∧ SatS X.K np E t g
def PDSs (X : Cx) (np : Nat) (E : Wish) (st : List Stmt) (g : MoS) : Prop := ∃ t, PSs X st t ∧ SatS X.K np E t g
variable {np : Nat}
theorem After.shift {T : Ent} {O O1 : List Addr} {H H1 : Hp} {env' : PEnv} {N} (a : After T O H env' N) (s : Same (cut O H) (cut O1 H1)) : After T O1 H1 env' N := fun O' M' σ' H' r s' => a O' M' σ' H' r (s.trans s')
theorem PostS.shift {T : Ent} {O O1 : List Addr} {H H1 : Hp} {D : Ends} {o : SOut} (p : PostS T E O H D o) (s : Same (cut O H) (cut O1 H1)) : PostS T E O1 H1 D o := by
  cases o with
  | nx e => exact After.shift p s
  | ret d e => exact fun O' M' σ' H' v r s' rv => p O' M' σ' H' v r (s.trans s') rv
  | bk e => exact After.shift p s
  | ct e => exact After.shift p s
  | exc C fs => exact p
theorem PostS.exc {T : Ent} {O : List Addr} {H : Hp} {D : Ends} {o : SOut} (p : PostS T E O H D o) : ∀ C fs, o = .exc C fs → XP T E C fs := by
  intro C fs e; subst e; exact p
def nxS : MoS := fun env => some (.nx env)
def seqS (g1 g2 : MoS) : MoS := fun env => match g1 env with
  | some (.nx e) => g2 e
  | r => r
theorem pds_nil : PDSs X np E [] nxS := ⟨_, pss_nil, fun T O M env σ H D o hK hP r e p => by cases e; exact p O M σ H r (Same.refl _)⟩
theorem pds_cons {st : Stmt} {rest : List Stmt} {g1 g2 : MoS} (h1 : PDS X np E st g1) (h2 : PDSs X np E rest g2) : PDSs X np E (st :: rest) (seqS g1 g2) := by
  obtain ⟨t, a1, a2⟩ := h1
  obtain ⟨u, b1, b2⟩ := h2
  refine ⟨_, pss_cons a1 b1, fun T O M env σ H D o hK hP r e p => ?_⟩
  unfold seqS at e
  split at e
  · rename_i e1 he
    exact a2 T O M env σ H { D with nx := u D } (.nx e1) hK hP r he fun O' M' σ' H' r' s' => b2 T O' M' e1 σ' H' D o hK hP r' e (p.shift s')
  · rename_i hne
    refine a2 T O M env σ H { D with nx := u D } o hK hP r e ?_
    cases o with
    | nx e1 => exact absurd e (hne e1)
    | ret d e1 => exact p
    | bk e1 => exact p
    | ct e1 => exact p
    | exc C fs => exact p
theorem pds_one {st : Stmt} {g : MoS} (h : PDS X np E st g) : PDSs X np E [st] g := by
  obtain ⟨t, a1, a2⟩ := h
  exact ⟨t, pss_one a1, a2⟩
/-! an expression within a statement -/
def withE {α : Type} (f : Mo α) (k : α → MoS) : MoS := fun env => match f env with
  | some (.ok a e) => k a e
  | some (.exc C fs) => some (.exc C fs)
  | none => none
theorem withE_split {α : Type} {f : Mo α} {k : α → MoS} {env : PEnv} {o : SOut} (h : withE f k env = some o) : (∃ C fs, f env = some (.exc C fs) ∧ o = .exc C fs) ∨ ∃ a e, f env = some (.ok a e) ∧ k a e = some o := by
  unfold withE at h
  split at h
  · rename_i a e hm; exact .inr ⟨a, e, hm, h⟩
  · rename_i C fs hm; exact .inl ⟨C, fs, hm, (Option.some.inj h).symm⟩
  · cases h
theorem SatE.within {K : PySem.W.Frag} {t : TE} {f : Mo SV} (h : SatE K E t f) {k : SV → MoS} {T : Ent} {O M : List Addr} {env : PEnv} {σ : L2.St} {H : Hp} {D : Ends} {Q : VK} {o : SOut}
    (hK : KT T K E) (r : R T O M env σ H) (e : withE f k env = some o) (p : PostS T E O H D o)
    (hk : ∀ x e1 v H', k x e1 = some o → R T O M e1 σ H' → PostS T E O H' D o → RepR T.K O H' v x → Same (cut O H) (cut O H') → Q v H') : t σ H Q := by
  rcases withE_split e with ⟨C, fs, h1, rfl⟩ | ⟨a, e1, h1, h2⟩
  · exact h T O M env σ H Q (.exc C fs) hK r h1 p
  · exact h T O M env σ H Q (.ok a e1) hK r h1 fun v H' r' f' rp => hk a e1 v H' h2 r' (p.shift (f'.cut r.sub)) rp (f'.cut r.sub)
def ifS (c : Mo Bool) (g1 g2 : MoS) : MoS := withE c fun b => if b = true then g1 else g2
theorem pds_if {c : Expr} {a b : List Stmt} {f : Mo Bool} {g1 g2 : MoS} (hc : PDT X E c f) (ha : PDSs X np E a g1) (hb : PDSs X np E b g2) : PDS X np E (.If c a b pos) (ifS f g1 g2) := by
  obtain ⟨t, c1, c2⟩ := hc
  obtain ⟨ta, a1, a2⟩ := ha
  obtain ⟨tb, b1, b2⟩ := hb
  refine ⟨_, ps_if c1 a1 b1, fun T O M env σ H D o hK hP r e p => ?_⟩
  rcases withE_split e with ⟨C, fs, h1, rfl⟩ | ⟨x, e1, h1, h2⟩
  · exact c2 T O M env σ H _ (.exc C fs) hK r h1 p
  · refine c2 T O M env σ H _ (.ok x e1) hK r h1 fun H' r' f' => ?_
    cases x with
    | true => rw [if_pos rfl] at h2 ⊢; exact a2 T O M e1 σ H' D o hK hP r' h2 (p.shift (f'.cut r.sub))
    | false => rw [if_neg (by decide)] at h2 ⊢; exact b2 T O M e1 σ H' D o hK hP r' h2 (p.shift (f'.cut r.sub))
def dropS (f : Mo SV) : MoS := withE f fun _ => nxS
theorem pds_expr {e : Expr} {f : Mo SV} (h : PDE X E e f) (hs : swapsWith e none pos.line X.env = pure false := by rfl) : PDS X np E (.Expr e pos) (dropS f) := by
  obtain ⟨t, h1, h2⟩ := h
  refine ⟨_, ps_expr h1 hs, fun T O M env σ H D o hK hP r e p => ?_⟩
  refine h2.within (Q := fun _ H1 => D.nx σ H1) hK r e p fun x e1 v H' ek r' p' rp s => ?_
  cases ek
  exact p' O M σ H' r' (Same.refl _)
def retS (f : Mo SV) : MoS := withE f fun x env => some (.ret x env)
theorem pds_ret {e : Expr} {f : Mo SV} (h : PDE X E e f) : PDS X np E (.Return (some e) pos) (retS f) := by
  obtain ⟨t, h1, h2⟩ := h
  refine ⟨_, ps_ret h1, fun T O M env σ H D o hK hP r e p => ?_⟩
  refine h2.within (Q := D.rt) hK r e p fun x e1 v H' ek r' p' rp s => ?_
  cases ek
  exact p' O M σ H' v r' (Same.refl _) rp
theorem pds_continue : PDS X np E (.Continue pos) (fun env => some (.ct env)) := ⟨_, ps_continue, fun T O M env σ H D o hK hP r e p => by cases e; exact p O M σ H r (Same.refl _)⟩
theorem pds_break : PDS X np E (.Break pos) (fun env => some (.bk env)) := ⟨_, ps_break, fun T O M env σ H D o hK hP r e p => by cases e; exact p O M σ H r (Same.refl _)⟩
theorem pds_pass : PDS X np E (.Pass pos) nxS := ⟨_, ps_pass, fun T O M env σ H D o hK hP r e p => by cases e; exact p O M σ H r (Same.refl _)⟩
/-- what no call reaches -/
theorem pds_never {st : Stmt} : PDS X np E st (fun _ => none) := ⟨_, ps_never, fun T O M env σ H D o hK hP r e p => by cases e⟩
theorem pdss_never {st : List Stmt} : PDSs X np E st (fun _ => none) := ⟨_, pss_never, fun T O M env σ H D o hK hP r e p => by cases e⟩
/-! stores -/
def asgS (f : Mo SV) (g : SV → Mo Unit) : MoS := withE f fun x => withE (g x) fun _ => nxS
theorem asg_end {X : Cx} {is : List Nat} {g : SV → Mo Unit} {tg : TG} (hg : ∀ (T : Ent) (O M : List Addr) (env env' : PEnv) (σ : L2.St) (H : Hp) (v : V) (d : SV) (Q : L2.St → Hp → Prop), T.K = X.K → R T O M env σ H → RepR X.K O H v d → g d env = some (.ok () env') → (∀ σ', R T O M env' σ' H → Chg is σ σ' → Q σ' H) → tg v σ H Q)
    (hno : ∀ d env C fs, g d env ≠ some (.exc C fs)) {T : Ent} {O M : List Addr} {e1 : PEnv} {σ : L2.St} {H : Hp} {v : V} {x : SV} {D : Ends} {o : SOut} (hK : T.K = X.K) (r : R T O M e1 σ H) (ek : withE (g x) (fun _ => nxS) e1 = some o) (p : PostS T E O H D o) (rp : RepR T.K O H v x) : tg v σ H D.nx := by
  rcases withE_split ek with ⟨C, fs, z, _⟩ | ⟨_, e2, h1, h2⟩
  · exact absurd z (hno _ _ _ _)
  · cases h2
    exact hg T O M e1 e2 σ H v x D.nx hK r (by rw [← hK]; exact rp) h1 fun σ' r' _ => p O M σ' H r' (Same.refl _)
theorem pds_asg {tg e : Expr} {is : List Nat} {f : Mo SV} {g : SV → Mo Unit} (he : PDE X E e f) (hg : PDG X tg is g) (hno : ∀ d env C fs, g d env ≠ some (.exc C fs)) (hs : swapsWithSole [tg] e pos.line X.env = pure false := by rfl) (hw : swappedStores [tg] e X.env = pure none := by rfl) (ha : (assignEach [tg] X.env).map (·.2) = [assign tg X.env] := by rfl) :
    PDS X np E (.Assign [tg] e pos) (asgS f g) := by
  obtain ⟨t, h1, h2⟩ := he
  obtain ⟨u, g1, g2⟩ := hg
  refine ⟨_, ps_asg (h1 := ha) h1 g1 hs hw, fun T O M env σ H D o hK hP r e p => ?_⟩
  exact h2.within (Q := fun x H1 => u x σ H1 D.nx) hK r e p fun x e1 v H' ek r' p' rp s => asg_end g2 hno hK.eq r' ek p' rp
theorem setM_no (i : Nat) : ∀ d env C fs, setM i d env ≠ some (.exc C fs) := fun d env C fs z => by
  unfold setM at z
  split at z <;> cases z
def setS (i : Nat) (f : Mo SV) : MoS := asgS f (setM i)
theorem pds_set (i : Nat) {x : Str} {e : Expr} {p0 : Pos} {f : Mo SV} (he : PDE X E e f) (hN : X.N.Nodup) (hi : X.N[i]? = some x := by rfl) (hx : Loc X.env.scope x := by first | exact .inl rfl | exact .inr rfl) (hs : swapsWith e (some (.Name x p0)) pos.line X.env = pure false := by rfl)
    (hf : X.fn x = true ∨ X.env.scope.names.lookup x = some .local := by first | exact .inl rfl | exact .inr rfl) : PDS X np E (.Assign [.Name x p0] e pos) (setS i f) := by
  obtain ⟨t, h1, h2⟩ := he
  refine ⟨_, ps_set hN hi hx h1 hs hf, fun T O M env σ H D o hK hP r e p => ?_⟩
  obtain ⟨u, g1, g2⟩ := pdg_name (X := X) (pos := p0) i (pg_name hN hi hx hf)
  refine h2.within (Q := fun x H1 => gName i x σ H1 D.nx) hK r e p fun x e1 v H' ek r' p' rp s => ?_
  rcases withE_split ek with ⟨C, fs, z, _⟩ | ⟨_, e2, q1, q2⟩
  · exact absurd z (setM_no _ _ _ _ _)
  · cases q2
    obtain ⟨w1, w2, w3⟩ := setM_some q1
    cases w3
    exact p' O M _ H' (r'.setv w1 rp) (Same.refl _)
theorem pds_setLc (i : Nat) {y : Str} {py : Pos} {elt tg iter : Expr} {ifs : List Expr} {scope : Scope} {own : List (Str × Nat)} {spos : Pos} {fi : Mo (List PyData)} {is : List Nat} {g : SV → Mo Unit} {tt : Mo Bool} {te : Mo SV} (hc : X.calm = true) (hN : X.N.Nodup) (hy : X.N[i]? = some y) (hyl : X.env.scope.names.lookup y = some .local)
    (hsw : swapsWith (.ListComp elt [⟨tg, iter, ifs, 0⟩] scope pos) (some (.Name y py)) spos.line X.env = pure true) (hi : PDI X E tg iter fi) (ok : BlkOk X.N X.env.scope scope own)
    (hg : ∀ (s : Shared) (H : Hp) (C : Addr) (cl : List (Str × Addr)) (fp : List Addr), PDG (X.blk s H scope (compEnvC scope cl C X.env) fp) tg is g) (ht : ∀ (s : Shared) (H : Hp) (C : Addr) (cl : List (Str × Addr)) (fp : List Addr), PDTs (X.blk s H scope (compEnvC scope cl C X.env) fp) E.no ifs tt)
    (he : ∀ (s : Shared) (H : Hp) (C : Addr) (cl : List (Str × Addr)) (fp : List Addr), PDE (X.blk s H scope (compEnvC scope cl C X.env) fp) E.no elt te) (hsub : ∀ i ∈ is, i ∈ own.map (·.2) := by decide) (hs : ∀ x, foldedSetIterable iter X.env x = pure x := by intro _; rfl) :
    PDS X np E (.Assign [.Name y py] (.ListComp elt [⟨tg, iter, ifs, 0⟩] scope pos) spos) (setS i (lcM (own.map (·.2)) fi g tt te)) := by
  obtain ⟨wi, i1, i2⟩ := hi
  refine ⟨_, ps_setLc (g := tgOf X.K is g) (tt := tOfT X.K E.no tt) (te := tOf X.K E.no te) hc hN hy hyl hsw i1 ok (fun s H C cl fp => (hg s H C cl fp).uni) (fun s H C cl fp => (ht s H C cl fp).uni) (fun s H C cl fp => (he s H C cl fp).uni) hs, fun T O M env σ H D o hK hP r e p => ?_⟩
  refine (lc_sat i2 hsub).within (Q := fun x H1 => gName i x σ H1 D.nx) hK r e p fun x e1 v H' ek r' p' rp s => ?_
  rcases withE_split ek with ⟨C, fs, z, _⟩ | ⟨_, e2, q1, q2⟩
  · exact absurd z (setM_no _ _ _ _ _)
  · cases q2
    obtain ⟨w1, w2, w3⟩ := setM_some q1
    cases w3
    exact p' O M _ H' (r'.setv w1 rp) (Same.refl _)
/-- a, b = e1, e2 -/
def parS (i j : Nat) (f : Mo (List Arg)) : MoS := withE f fun as => match as with
  | [.v x, .v y] => withE (setM i x) fun _ => withE (setM j y) fun _ => nxS
  | _ => fun _ => none
theorem pds_par {i j : Nat} {x y : Str} {a b : Expr} {f : Mo (List Arg)} {px py pt : Pos} {kt k2 pt2} (hab : PDA X E [a, b] f) (mk : ∀ t, PA X [a, b] t → PS X (.Assign [.Tuple [.Name x px, .Name y py] kt pt] (.Tuple [a, b] k2 pt2) pos) (tPar i j t)) :
    PDS X np E (.Assign [.Tuple [.Name x px, .Name y py] kt pt] (.Tuple [a, b] k2 pt2) pos) (parS i j f) := by
  obtain ⟨t, h1, h2⟩ := hab
  refine ⟨_, mk t h1, fun T O M env σ H D o hK hP r e p => ?_⟩
  rcases withE_split e with ⟨C, fs, h1, rfl⟩ | ⟨as, e1, h1, h3⟩
  · exact h2 T O M env σ H _ (.exc C fs) hK r h1 p
  · refine h2 T O M env σ H _ (.ok as e1) hK r h1 fun vs H' r' f' rp => ?_
    split at h3
    · rename_i x y
      obtain ⟨v, w, rfl, rv, rw_⟩ := paired2 rp
      rcases withE_split h3 with ⟨C, fs, z, _⟩ | ⟨_, e2, q1, q2⟩
      · exact absurd z (setM_no _ _ _ _ _)
      rcases withE_split q2 with ⟨C, fs, z, _⟩ | ⟨_, e3, q3, q4⟩
      · exact absurd z (setM_no _ _ _ _ _)
      cases q4
      obtain ⟨w1, w2, w3⟩ := setM_some q1
      cases w3
      obtain ⟨u1, u2, u3⟩ := setM_some q3
      cases u3
      have r2 := r'.setv (v := v) w1 rv
      have r3 := r2.setv (v := w) u1 rw_
      exact ⟨v, w, rfl, p O M _ H' r3 (f'.cut r.sub)⟩
    · cases h3
end
end Pd
end
section
set_option Elab.async false
set_option linter.all false
set_option maxRecDepth 100000
set_option maxHeartbeats 4000000
namespace Pd
open PySem PySem.Spec PyProof.Rows L2
section
variable {X : Cx} {E : Wish} {pos : Pos} {np : Nat}
/-! ### loops -/
def forGo (g : SV → Mo Unit) (body : MoS) : List PyData → MoS
  | [] => nxS
  | d :: ds => fun env => match g (.da d) env with
    | some (.ok _ e1) => (match body e1 with
      | some (.nx e2) => forGo g body ds e2
      | some (.ct e2) => forGo g body ds e2
      | some (.bk e2) => some (.nx e2)
      | r => r)
    | _ => none
def forS (fi : Mo (List PyData)) (g : SV → Mo Unit) (body : MoS) : MoS := withE fi fun ds => forGo g body ds
theorem pds_for {tg iter : Expr} {body : List Stmt} {is : List Nat} {fi : Mo (List PyData)} {g : SV → Mo Unit} {gb : MoS} (hp : PassesOwn (model X.prog X.w) X.A X.env X.xe) (hc : X.calm = true) (hi : PDI X E tg iter fi) (hg : PDG X tg is g) (hb : PDSs X np E body gb)
    (hs : ∀ x, foldedSetIterable iter X.env x = pure x := by intro _; rfl) : PDS X np E (.For tg iter body [] pos) (forS fi g gb) := by
  obtain ⟨wi, i1, i2⟩ := hi
  obtain ⟨u, g1, g2⟩ := hg
  obtain ⟨tb, b1, b2⟩ := hb
  refine ⟨_, ps_for hp hc i1 g1 b1 hs, fun T O M env σ H D o hK hP r e p => ?_⟩
  rcases withE_split e with ⟨C, fs, h1, rfl⟩ | ⟨ds, e1, h1, h2⟩
  · exact i2 T O M env σ H _ (.exc C fs) hK r h1 p
  refine i2 T O M env σ H _ (.ok ds e1) hK r h1 fun J H1 r1 f1 it => ?_
  obtain ⟨G, Y, wk, hG, hY⟩ := it.ex
  have p1 := p.shift (f1.cut r.sub)
  refine for_it wk (fun i σ2 H2 => ∃ O2 M2 env2, R T O2 M2 env2 σ2 H2 ∧ forGo g gb (ds.drop i) env2 = some o ∧ Same (cut O H1) (cut O2 H2)) ⟨O, M, e1, r1, h2, Same.refl _⟩ (fun i σ2 H2 _ ⟨O2, M2, env2, _, _, s⟩ => hG _ _ s) (fun i x σ2 H2 H3 hlt hP2 hy => ?_) fun σ2 H2 hP2 => ?_
  · obtain ⟨O2, M2, env2, r2, hgo, s2⟩ := hP2
    rw [List.drop_eq_getElem_cons hlt] at hgo
    obtain ⟨s23, hx⟩ := hY O2 i H2 x H3 ds[i] r2.live s2 hy (List.getElem?_eq_getElem hlt)
    have r3 := r2.same s23
    have s3 : Same (cut O H1) (cut O2 H3) := s2.trans ((Fr.of s23 : Fr M2 H2 H3).cut r2.sub)
    unfold forGo at hgo
    split at hgo
    · rename_i e3 h3
      refine g2 T O2 M2 env2 e3 σ2 H3 x (.da ds[i]) _ hK.eq r3 (by rw [← hK.eq]; exact hx) h3 fun σ4 r4 _ => ?_
      have p3 := p1.shift s3
      split at hgo
      · rename_i e4 h4
        exact b2 T O2 M2 e3 σ4 H3 _ (.nx e4) hK hP r4 h4 fun O5 M5 σ5 H5 r5 s5 => ⟨O5, M5, e4, r5, hgo, s3.trans s5⟩
      · rename_i e4 h4
        exact b2 T O2 M2 e3 σ4 H3 _ (.ct e4) hK hP r4 h4 fun O5 M5 σ5 H5 r5 s5 => ⟨O5, M5, e4, r5, hgo, s3.trans s5⟩
      · rename_i e4 h4
        cases hgo
        exact b2 T O2 M2 e3 σ4 H3 _ (.bk e4) hK hP r4 h4 p3
      · rename_i n1 n2 n3
        cases o with
        | nx e' => exact absurd hgo (n1 e')
        | ct e' => exact absurd hgo (n2 e')
        | bk e' => exact absurd hgo (n3 e')
        | ret d e' => exact b2 T O2 M2 e3 σ4 H3 _ (.ret d e') hK hP r4 hgo p3
        | exc C fs => exact b2 T O2 M2 e3 σ4 H3 _ (.exc C fs) hK hP r4 hgo p3
    · cases hgo
  · obtain ⟨O2, M2, env2, r2, hgo, s2⟩ := hP2
    rw [List.drop_length] at hgo
    cases hgo
    exact p1 O2 M2 σ2 H2 r2 s2

/-! ### owned lists -/
/-- what makes a list that is new -/
def PDN (X : Cx) (E : Wish) (e : Expr) (f : Mo (List PyData)) : Prop := ∃ t, PE X e t ∧ ∀ (T : Ent) (O M : List Addr) (env : PEnv) (σ : L2.St) (H : Hp) (Q : VK) (o : Out (List PyData)), KT T X.K E → R T O M env σ H → f env = some o →
  (match o with
    | .ok ds env' => ∀ p H1 vs, R T O M env' σ H1 → Fr M H H1 → H1 p = none → DpAll T.K (cut O H1) vs ds → Q (.ref p) (upd H1 p (.lst vs))
    | .exc C fs => XP T E C fs) → t σ H Q
def newLM (f : Mo (List Arg)) : Mo (List PyData) := bindM f fun as => liftO ((datas as).bind fun ds => if ds.length ≤ 1000 then some ds else none)
theorem disp_lift2 {as : List Arg} {e2 : PEnv} {o : Out (List PyData)} (h : liftO ((datas as).bind fun ds => if ds.length ≤ 1000 then some ds else none) e2 = some o) : ∃ ds, datas as = some ds ∧ ds.length ≤ 1000 ∧ o = .ok ds e2 := by
  obtain ⟨a, ea, rfl⟩ := lift_split h
  cases q : datas as with
  | none => rw [q] at ea; cases ea
  | some ds =>
    rw [q] at ea
    simp only [Option.bind_some] at ea
    split at ea
    · cases ea; exact ⟨_, rfl, by assumption, rfl⟩
    · cases ea
theorem pdn_lst {es : List Expr} {f : Mo (List Arg)} (h : PDA X E es f) : PDN X E (.List es pos) (newLM f) := by
  obtain ⟨t, h1, h2⟩ := h
  refine ⟨_, pe_lst h1, fun T O M env σ H Q o hK rr ee p => ?_⟩
  refine h2.bind (Q := fun xs H1 => xs.length ≤ sizeLine ∧ ∀ p, H1 p = none → Q (.ref p) (upd H1 p (.lst xs))) hK rr ee (fun C fs e => by subst e; exact p) fun y e2 us H2 ek2 r2 f2 p2 => ?_
  obtain ⟨ds, hd, hl, rfl⟩ := disp_lift2 ek2
  have hr := datas_rep p2 hd
  exact ⟨le1000 (by rw [DpAll.length hr]; exact hl), fun a ha => p a H2 us r2 f2 ha hr⟩
/-- [c] * n -/
def one? (as : List Arg) : Option PyData := match datas as with
  | some [d] => some d
  | _ => none
theorem one_some {as : List Arg} {d : PyData} (h : one? as = some d) : datas as = some [d] := by
  unfold one? at h
  split at h
  · rename_i q; cases h; exact q
  · cases h
def repLM (f : Mo (List Arg)) (fn : Mo SV) : Mo (List PyData) := bindM f fun as => bindM (liftO (one? as)) fun d => bindM fn fun x => liftO (match asI x with
  | some n => if 0 ≤ n ∧ n ≤ 1000 then some (List.replicate n.toNat d) else none
  | none => none)
theorem flat_rep {α : Type} (v : α) : ∀ n : Nat, (List.replicate n [v]).flatten = List.replicate n v
  | 0 => rfl
  | n + 1 => by rw [List.replicate_succ, List.flatten_cons, flat_rep v n]; rfl
theorem dp_rep {K : PySem.W.Frag} {H : Hp} {v : V} {d : PyData} (h : Dp K H v d) : ∀ n : Nat, DpAll K H (List.replicate n v) (List.replicate n d)
  | 0 => .nil
  | n + 1 => .cons h (dp_rep h n)
theorem pdn_rep {es : List Expr} {b : Expr} {p1 : Pos} {f : Mo (List Arg)} {fn : Mo SV} (h : PDA X E es f) (hn : PDE X E b fn) : PDN X E (.BinOp (.List es p1) .Mult b pos) (repLM f fn) := by
  obtain ⟨t, h1, h2⟩ := h
  obtain ⟨u, b1, b2⟩ := hn
  refine ⟨_, pe_op op_rep (pe_lst h1) b1, fun T O M env σ H Q o hK rr ee p => ?_⟩
  refine h2.bind (Q := fun xs H1 => xs.length ≤ sizeLine ∧ ∀ p, H1 p = none → u σ (upd H1 p (.lst xs)) fun y H2 => rRep (.ref p) y H2 Q) hK rr ee (fun C fs e => by subst e; exact p) fun y e2 us H2 ek2 r2 f2 p2 => ?_
  rcases bind_split ek2 with ⟨C, fs, h5, _⟩ | ⟨d, e2', h5, h6⟩
  · obtain ⟨_, _, z⟩ := lift_split h5; cases z
  obtain ⟨_, hd, z⟩ := lift_split h5
  cases z
  have hr := datas_rep p2 (one_some hd)
  cases hr with
  | cons rd rt =>
    cases rt
    rename_i v0
    refine ⟨(by show 1 ≤ sizeLine; decide), fun a ha => ?_⟩
    have haM : a ∉ M := fun z => r2.new ha (r2.sub a z)
    refine SatE.bind (β := List PyData) (o := o) b2 hK (r2.same (same_upd ha)) h6 (fun C fs e => by subst e; exact p) fun x e3 w H3 ek r3 f3 rp => ?_
    obtain ⟨_, h7, rfl⟩ := lift_split ek
    split at h7
    · rename_i n hn
      split at h7
      · rename_i hb
        cases h7
        have hx := asI_some hn
        subst hx
        have h3a : H3 a = some (.lst [v0]) := f3 _ _ upd_same haM
        refine ⟨a, n, [v0], rfl, Dp.isInt rp, h3a, by omega, by omega, ?_, fun q hq => ?_⟩
        · have : n.toNat ≤ 1000 := by omega
          simpa using le1000 this
        · rw [flat_rep]
          refine p q H3 _ r3 ((f2.trans (Fr.of (same_upd ha))).trans f3) hq (dp_rep ?_ _)
          have s1 : Same (cut O H2) (cut O H3) := ((Fr.of (same_upd ha) : Fr M H2 _).trans f3).cut r2.sub
          exact Dp.mono s1 _ _ rd
      · cases h7
    · cases h7
theorem R.newOwn {T : Ent} {O M : List Addr} {env : PEnv} {σ : L2.St} {H : Hp} {i : Nat} {l : Addr} {ds : List PyData} {vs : List V} (r : R T O M env σ H) (ho : isOwn env i = false) (hl : H l = none) (hv : DpAll T.K (Pd.cut O H) vs ds) :
    R T (l :: O) (l :: M) (env.set i (some (.own ds))) (σ.set i (some (.ref l))) (upd H l (.lst vs)) := by
  have r1 := r.addO (o := .lst vs) hl
  have ec : Same (Pd.cut O H) (Pd.cut (l :: O) (upd H l (.lst vs))) := cut_same (fun b x e _ => Pd.same_upd hl b x e) fun b x e z => by
    rcases List.mem_cons.mp z with rfl | z
    · rw [hl] at e; cases e
    · exact z
  have hlM : l ∉ M := fun z => r.new hl (r.sub l z)
  have other : ∀ (j : Nat) es, (env.set i (some (SV.own ds)))[j]? = some (some (.own es)) → (j = i ∧ es = ds ∧ i < env.length) ∨ (j ≠ i ∧ env[j]? = some (some (.own es))) := fun j es h => by
    by_cases hj : i = j
    · subst hj
      by_cases hlt : i < env.length
      · rw [List.getElem?_set_self hlt] at h; cases h; exact .inl ⟨rfl, rfl, hlt⟩
      · rw [List.getElem?_eq_none (by rw [List.length_set]; omega)] at h; cases h
    · rw [List.getElem?_set_ne hj] at h; exact .inr ⟨Ne.symm hj, h⟩
  have notl : ∀ (j : Nat) es, env[j]? = some (some (.own es)) → σ[j]? ≠ some (some (.ref l)) := fun j es h z => by
    obtain ⟨v, q1, l', vs', q2, q3, _⟩ := r.at_ _ _ h
    rw [z] at q1; cases q1; cases q2; exact hlM q3
  have dback : ∀ (j : Nat) es, (env.set i (some (SV.own ds)))[j]? = some (some (.dic es)) → j ≠ i ∧ env[j]? = some (some (.dic es)) := fun j es h => by
    by_cases hj : i = j
    · subst hj
      by_cases hlt : i < env.length
      · rw [List.getElem?_set_self hlt] at h; cases h
      · rw [List.getElem?_eq_none (by rw [List.length_set]; omega)] at h; cases h
    · rw [List.getElem?_set_ne hj] at h; exact ⟨Ne.symm hj, h⟩
  refine ⟨by rw [List.length_set, List.length_set]; exact r.len, fun j s h => ?_, fun j k a ds1 ds2 h1 h2 h3 h4 => ?_, fun j k a ds1 ds2 h1 h2 h3 h4 => by
    obtain ⟨n1, o1⟩ := dback j _ h1
    obtain ⟨n2, o2⟩ := dback k _ h2
    rw [List.getElem?_set_ne (Ne.symm n1)] at h3
    rw [List.getElem?_set_ne (Ne.symm n2)] at h4
    exact r.apartD j k a ds1 ds2 o1 o2 h3 h4, r1.live, fun b hb => ?_, r1.ent, fun b hb => ?_, r1.frame, fun p hp => ?_, r1.tabs, fun p hp => List.mem_cons_of_mem _ (r.tin p hp)⟩
  · by_cases hj : i = j
    · subst hj
      by_cases hlt : i < env.length
      · rw [List.getElem?_set_self hlt] at h; cases h
        exact ⟨_, List.getElem?_set_self (by rw [← r.len]; exact hlt), l, vs, rfl, List.mem_cons_self, upd_same, DpAll.mono ec _ _ hv⟩
      · rw [List.getElem?_eq_none (by rw [List.length_set]; omega)] at h; cases h
    · rw [List.getElem?_set_ne hj] at h
      obtain ⟨v, q1, q2⟩ := r1.at_ _ _ h
      refine ⟨v, by rw [List.getElem?_set_ne hj]; exact q1, ?_⟩
      cases s with
      | da d => exact q2
      | obj C fs => exact q2
      | own es => obtain ⟨l', vs', w1, w2, w3, w4⟩ := q2; exact ⟨l', vs', w1, List.mem_cons_of_mem _ w2, w3, w4⟩
      | dic es => obtain ⟨l', xs, w, w1, w2, w3, w4⟩ := q2; exact ⟨l', xs, w, w1, List.mem_cons_of_mem _ w2, w3, w4⟩
  · rcases other j ds1 h1 with ⟨e1, _, hlt⟩ | ⟨n1, o1⟩
    · rcases other k ds2 h2 with ⟨e2, _, _⟩ | ⟨n2, o2⟩
      · rw [e1, e2]
      · rw [e1, List.getElem?_set_self (by rw [← r.len]; exact hlt)] at h3
        cases h3
        rw [List.getElem?_set_ne (Ne.symm n2)] at h4
        exact absurd h4 (notl k ds2 o2)
    · rcases other k ds2 h2 with ⟨e2, _, hlt⟩ | ⟨n2, o2⟩
      · rw [e2, List.getElem?_set_self (by rw [← r.len]; exact hlt)] at h4
        cases h4
        rw [List.getElem?_set_ne (Ne.symm n1)] at h3
        exact absurd h3 (notl j ds1 o1)
      · rw [List.getElem?_set_ne (Ne.symm n1)] at h3
        rw [List.getElem?_set_ne (Ne.symm n2)] at h4
        exact r.apart j k a ds1 ds2 o1 o2 h3 h4
  · rcases List.mem_cons.mp hb with rfl | hb
    · exact List.mem_cons_self
    · exact List.mem_cons_of_mem _ (r.sub b hb)
  · rcases List.mem_cons.mp hb with rfl | hb
    · cases q : T.H b with
      | none => exact .inr (.inl rfl)
      | some x =>
        by_cases hp : b ∈ T.par.map (·.2)
        · exact .inl hp
        · by_cases ht : b ∈ T.tbs.map (·.1)
          · exact .inr (.inr ht)
          · have := r.frame b x q hp ht
            rw [hl] at this; cases this
    · exact r.mine b hb
  · obtain ⟨h1, es, h2⟩ := r.pars p hp
    have hne : i ≠ p.1 := fun e => notOwn ho (by rw [e]; exact h2)
    exact ⟨by rw [List.getElem?_set_ne hne]; exact h1, es, by rw [List.getElem?_set_ne hne]; exact h2⟩
def ownS (i : Nat) (f : Mo (List PyData)) : MoS := withE f fun ds env => if isOwn env i = true then none else some (.nx (env.set i (some (.own ds))))
theorem pds_own (i : Nat) {x : Str} {e : Expr} {p0 : Pos} {f : Mo (List PyData)} (he : PDN X E e f) (hN : X.N.Nodup) (hi : X.N[i]? = some x := by rfl) (hx : Loc X.env.scope x := by first | exact .inl rfl | exact .inr rfl) (hs : swapsWith e (some (.Name x p0)) pos.line X.env = pure false := by rfl)
    (hf : X.fn x = true ∨ X.env.scope.names.lookup x = some .local := by first | exact .inl rfl | exact .inr rfl) : PDS X np E (.Assign [.Name x p0] e pos) (ownS i f) := by
  obtain ⟨t, h1, h2⟩ := he
  refine ⟨_, ps_set hN hi hx h1 hs hf, fun T O M env σ H D o hK hP r e p => ?_⟩
  rcases withE_split e with ⟨C, fs, h3, rfl⟩ | ⟨ds, e1, h3, h4⟩
  · exact h2 T O M env σ H _ (.exc C fs) hK r h3 p
  · refine h2 T O M env σ H _ (.ok ds e1) hK r h3 fun q H1 vs r1 f1 hq hv => ?_
    split at h4
    · cases h4
    · rename_i ho
      cases h4
      have ho' : isOwn e1 i = false := by simpa using ho
      refine p _ _ _ _ (r1.newOwn ho' hq hv) ((f1.cut r.sub).trans ?_)
      exact cut_same (fun b x e _ => same_upd hq b x e) fun b x e z => by
        rcases List.mem_cons.mp z with rfl | z
        · rw [hq] at e; cases e
        · exact z
/-- an owned list is handed over: it changes no more -/
def frzS (np i : Nat) (g : MoS) : MoS := fun env => match env[i]? with
  | some (some (.own ds)) => if np ≤ i then g (env.set i (some (.da (.list ds)))) else none
  | _ => none
theorem R.freeze {T : Ent} {O M : List Addr} {env : PEnv} {σ : L2.St} {H : Hp} {i : Nat} {ds : List PyData} {l : Addr} (r : R T O M env σ H) (hd : env[i]? = some (some (.own ds))) (hσ : σ[i]? = some (some (.ref l))) (hp : ∀ p ∈ T.par, p.1 ≠ i) (hT : l ∉ T.O) :
    R T (O.filter (· ≠ l)) (M.filter (· ≠ l)) (env.set i (some (.da (.list ds)))) σ H := by
  have hlt : i < env.length := (List.getElem?_eq_some_iff.mp hd).1
  have ec : Same (Pd.cut O H) (Pd.cut (O.filter (· ≠ l)) H) := cut_same (fun _ _ e _ => e) fun b x e z => (List.mem_filter.mp z).1
  have own_back : ∀ (j : Nat) (es : List PyData), (env.set i (some (SV.da (.list ds))))[j]? = some (some (.own es)) → j ≠ i ∧ env[j]? = some (some (.own es)) := fun j es h => by
    by_cases hj : i = j
    · subst hj; rw [List.getElem?_set_self hlt] at h; cases h
    · rw [List.getElem?_set_ne hj] at h; exact ⟨Ne.symm hj, h⟩
  have dback : ∀ (j : Nat) (es : List (PyData × PyData)), (env.set i (some (SV.da (.list ds))))[j]? = some (some (.dic es)) → env[j]? = some (some (.dic es)) := fun j es h => by
    by_cases hj : i = j
    · subst hj; rw [List.getElem?_set_self hlt] at h; cases h
    · rw [List.getElem?_set_ne hj] at h; exact h
  refine ⟨by rw [List.length_set]; exact r.len, fun j s h => ?_, fun j k a ds1 ds2 h1 h2 h3 h4 => ?_, fun j k a ds1 ds2 h1 h2 h3 h4 => r.apartD j k a ds1 ds2 (dback j _ h1) (dback k _ h2) h3 h4, fun b hb => r.live b (List.mem_filter.mp hb).1, fun b hb => ?_, fun b hb => ?_, fun b hb => r.mine b (List.mem_filter.mp hb).1, r.frame, fun p hp' => ?_, r.tabs, fun p hp' => ?_⟩
  · by_cases hj : i = j
    · subst hj
      rw [List.getElem?_set_self hlt] at h; cases h
      obtain ⟨v, q1, l', vs, q2, q3, q4, q5⟩ := r.at_ _ _ hd
      rw [hσ] at q1; cases q1; cases q2
      exact ⟨_, hσ, Dp.lst (.inl (.inl (cut_of q4 (by simp)))) (DpAll.mono ec _ _ q5)⟩
    · rw [List.getElem?_set_ne hj] at h
      obtain ⟨v, q1, q2⟩ := r.at_ _ _ h
      refine ⟨v, q1, ?_⟩
      cases s with
      | da d => exact RepR.mono (sv := .da d) ec q2
      | obj C fs => exact RepR.mono (sv := .obj C fs) ec q2
      | own es =>
        obtain ⟨l', vs', w1, w2, w3, w4⟩ := q2
        subst w1
        have hne : l' ≠ l := fun e => by subst e; exact hj (r.apart i j l' ds es hd h hσ q1)
        exact ⟨l', vs', rfl, List.mem_filter.mpr ⟨w2, by simpa using hne⟩, w3, DpAll.mono ec _ _ w4⟩
      | dic es =>
        obtain ⟨l', xs, w, w1, w2, w3, w4⟩ := q2
        have hne : l' ≠ l := fun e => by
          obtain ⟨v0, z1, l0, vs0, z2, _, z4, _⟩ := r.at_ _ _ hd
          rw [hσ] at z1; cases z1; cases z2
          rw [e, z4] at w3; cases w3
        exact ⟨l', xs, w, w1, List.mem_filter.mpr ⟨w2, by simpa using hne⟩, w3, w4.mono ec⟩
  · obtain ⟨_, o1⟩ := own_back j ds1 h1
    obtain ⟨_, o2⟩ := own_back k ds2 h2
    exact r.apart j k a ds1 ds2 o1 o2 h3 h4
  · exact List.mem_filter.mpr ⟨r.sub b (List.mem_filter.mp hb).1, (List.mem_filter.mp hb).2⟩
  · exact List.mem_filter.mpr ⟨r.ent b hb, by simpa using fun e : b = l => hT (by rw [← e]; exact hb)⟩
  · obtain ⟨h1, es, h2⟩ := r.pars p hp'
    exact ⟨h1, es, by rw [List.getElem?_set_ne (Ne.symm (hp p hp'))]; exact h2⟩
  · refine List.mem_filter.mpr ⟨r.tin p hp', ?_⟩
    obtain ⟨v, q1, l', vs, q2, q3, q4, q5⟩ := r.at_ _ _ hd
    rw [hσ] at q1; cases q1; cases q2
    have hne : p.1 ≠ l := fun e => by
      obtain ⟨ps, z⟩ := tab_some r.tabs (List.mem_map_of_mem (f := (·.1)) hp')
      rw [e, q4] at z; cases z
    simpa using hne
theorem pdss_frz (i : Nat) {st : List Stmt} {g : MoS} (h : PDSs X np E st g) (hE : True := True.intro) : PDSs X np E st (frzS np i g) := by
  obtain ⟨t, h1, h2⟩ := h
  refine ⟨t, h1, fun T O M env σ H D o hK hP r e p => ?_⟩
  unfold frzS at e
  split at e
  · rename_i ds hd
    split at e
    · rename_i hnp
      obtain ⟨v, q1, l, vs, q2, q3, q4, q5⟩ := r.at_ _ _ hd
      subst q2
      have hp : ∀ p ∈ T.par, p.1 ≠ i := fun p hp' z => by have := hP.1 p hp'; omega
      have hT : l ∉ T.O := fun z => by
        rcases r.mine l q3 with w | w | w
        · obtain ⟨x, hx, rfl⟩ := List.mem_map.mp w
          obtain ⟨g1, es, g2⟩ := r.pars x hx
          exact hp x hx (r.apart x.1 i x.2 es ds g2 hd g1 q1)
        · exact hP.2 l z w
        · obtain ⟨ps, e⟩ := tab_some r.tabs w
          rw [q4] at e; cases e
      refine h2 T _ _ _ σ H D o hK hP (r.freeze hd q1 hp hT) e (p.shift ?_)
      exact cut_same (fun _ _ e _ => e) fun b x e z => (List.mem_filter.mp z).1
    · cases e
  · cases e
end
end Pd
end
section
set_option Elab.async false
set_option linter.all false
set_option maxRecDepth 100000
set_option maxHeartbeats 4000000
namespace Pd
open PySem PySem.Spec PyProof.Rows L2
section
variable {X : Cx} {E : Wish} {pos : Pos} {np : Nat}
/-! ### owned lists changed -/
theorem own_at {T : Ent} {O M : List Addr} {env : PEnv} {σ : L2.St} {H : Hp} {i : Nat} {v : V} {ds : List PyData} (r : R T O M env σ H) (hd : env[i]? = some (some (.own ds))) (hv : σ[i]? = some (some v)) :
    ∃ l vs, v = .ref l ∧ l ∈ M ∧ H l = some (.lst vs) ∧ DpAll T.K (cut O H) vs ds := by
  obtain ⟨v', q1, l, vs, q2, q3, q4, q5⟩ := r.at_ _ _ hd
  rw [hv] at q1; cases q1
  exact ⟨l, vs, q2, q3, q4, q5⟩
theorem own_put {T : Ent} {O M : List Addr} {env : PEnv} {σ : L2.St} {H : Hp} {i : Nat} {l : Addr} {ds out : List PyData} {vs vs' : List V} (r : R T O M env σ H) (hd : env[i]? = some (some (.own ds))) (hv : σ[i]? = some (some (.ref l))) (hM : l ∈ M)
    (hl : H l = some (.lst vs)) (h : DpAll T.K (cut O H) vs' out) : R T O M (env.set i (some (.own out))) σ (upd H l (.lst vs')) ∧ Same (cut O H) (cut O (upd H l (.lst vs'))) := by
  have hO := r.sub l hM
  have ec : Same (cut O H) (cut O (upd H l (.lst vs'))) := cut_same (fun b x e n => by rw [upd_ne (fun z => n (by rw [z]; exact hO))]; exact e) fun _ _ _ z => z
  exact ⟨r.setOwn hd hv (fun b o e n => by rw [upd_ne (by simpa using n)]; exact e) upd_same (DpAll.mono ec _ _ h), ec⟩
def appS (i : Nat) (f : Mo SV) : MoS := fun env => if isOwn env i = true then withE f (fun x env2 => match env2[i]?, x with
  | some (some (.own ds)), .da d => if ds.length < LIM then some (.nx (env2.set i (some (.own (ds ++ [d]))))) else none
  | _, _ => none) env else none
theorem pds_app (i : Nat) {e : Expr} {st : Stmt} {f : Mo SV} (h : PDE X E e f) (mk : ∀ te, PE X e te → PS X st (tDrop (tBM X.K "list" rAppend (tVar i) (tCons te L2.tNil)))) : PDS X np E st (appS i f) := by
  obtain ⟨t, h1, h2⟩ := h
  refine ⟨_, mk t h1, fun T O M env σ H D o hK hP r e p => ?_⟩
  unfold appS at e
  split at e
  · rename_i hi
    obtain ⟨ds0, hd0⟩ := isOwn_some hi
    obtain ⟨v, hv, _⟩ := r.at_ _ _ hd0
    obtain ⟨l, vs0, rfl, _, hl0, _⟩ := own_at r hd0 hv
    refine ⟨_, hv, .inl ⟨rfl, _, SqL.of hl0⟩, ?_⟩
    refine h2.within (Q := fun x H1 => rAppend (.ref l) [x] H1 fun _ H2 => D.nx σ H2) hK r e p fun x e1 w H' ek r' p' rp s => ?_
    split at ek
    · rename_i ds d hd
      split at ek
      · rename_i hlim
        cases ek
        obtain ⟨l', vs, e', hM, hl, hds⟩ := own_at r' hd hv
        cases e'
        obtain ⟨r2, s2⟩ := own_put (out := ds ++ [d]) r' hd hv hM hl (DpAll.append hds (.cons rp .nil))
        refine ⟨l, vs, w, rfl, rfl, hl, ?_, p' _ _ _ _ r2 s2⟩
        rw [DpAll.length hds]
        exact Nat.lt_of_lt_of_le hlim (lim_le (Nat.le_refl _))
      · cases ek
    · cases ek
  · cases e
/-- x[k] = e -/
def putS (i : Nat) (fi fe : Mo SV) : MoS := withE fe fun x env => if isOwn env i = true then withE fi (fun k env2 => match env2[i]?, x, asI k with
  | some (some (.own ds)), .da d, some j => (match ixN ds.length j with
    | some m => some (.nx (env2.set i (some (.own (ds.set m d)))))
    | none => none)
  | _, _, _ => none) env else none
theorem pds_put (i : Nat) {idx e : Expr} {st : Stmt} {fi fe : Mo SV} (h : PDE X E e fe) (hi : PDE X E idx fi) (mk : ∀ te ti, PE X e te → PE X idx ti → PS X st (tAsg te (gSub (tVar i) ti rSetL))) : PDS X np E st (putS i fi fe) := by
  obtain ⟨t, h1, h2⟩ := h
  obtain ⟨u, i1, i2⟩ := hi
  refine ⟨_, mk t u h1 i1, fun T O M env σ H D o hK hP r e p => ?_⟩
  refine h2.within (Q := fun x H1 => gSub (tVar i) u rSetL x σ H1 D.nx) hK r e p fun x e1 w H' ek r' p' rp s => ?_
  split at ek
  · rename_i hi
    obtain ⟨ds0, hd0⟩ := isOwn_some hi
    obtain ⟨v, hv, _⟩ := r'.at_ _ _ hd0
    obtain ⟨l, vs0, rfl, _, hl0, _⟩ := own_at r' hd0 hv
    refine ⟨_, hv, ?_⟩
    refine i2.within (Q := fun k H2 => rSetL (.ref l) k w H2 fun H3 => D.nx σ H3) hK r' ek p' fun k e2 w2 H2 ek2 r2 p2 rp2 s2 => ?_
    split at ek2
    · rename_i ds d j hd hj
      split at ek2
      · rename_i m hm
        cases ek2
        have := asI_some hj
        subst this
        obtain ⟨l', vs, e', hM, hl, hds⟩ := own_at r2 hd hv
        cases e'
        have rp' := rp.mono s2
        obtain ⟨r3, s3⟩ := own_put (out := ds.set m d) r2 hd hv hM hl (DpAll.set rp' m hds)
        exact ⟨l, vs, j, m, rfl, Dp.isInt rp2, hl, by rw [DpAll.length hds]; exact hm, p2 _ _ _ _ r3 s3⟩
      · cases ek2
    · cases ek2
  · cases ek
theorem pget_list : PGet X (rIxL X.K) := by
  intro pins s σ H x y v u Q I rx ry h
  obtain ⟨p, xs, i, z, rfl, rfl, hq, he, q⟩ := h
  have ev : v = Value.ref p := rx
  subst ev
  obtain ⟨t, rfl⟩ := ry
  obtain ⟨its, rv, pl, hz⟩ := I.list hq
  obtain ⟨j, a1, a2, a3, a4, a5⟩ := atI_get he
  obtain ⟨w, ew, rw'⟩ := rv.get a2
  have hlen := rv.length
  have h63 := line63
  by_cases h0 : 0 ≤ i
  · have hj : i.toNat = j := by
      rw [seqIndex_of h0 a5] at a1
      exact Option.some.inj a1
    exact wpAny_getItem_list pl.isList h0 (by omega) (by rw [hj]; simpa using ew) ⟨z, H, I, rw', q⟩
  · have hj : (i + (its.toArray.size : Int)).toNat = j := by
      rw [seqIndex_neg (by omega) a4] at a1
      rw [List.size_toArray, ← hlen]
      exact Option.some.inj a1
    exact wpAny_getItem_list_neg pl.isList (by omega) (by rw [List.size_toArray] <;> omega) (by omega) (by rw [hj]; simpa using ew) ⟨z, H, I, rw', q⟩
/-- x[k] += e, ints -/
def augS (i : Nat) (fi fe : Mo SV) : MoS := fun env => if isOwn env i = true then withE fi (fun k env1 => match env1[i]?, asI k with
  | some (some (.own ds)), some j => (match ixN ds.length j with
    | some m => (match ds[m]? with
      | some (.int a) => withE fe (fun y env2 => match env2[i]?, asI y with
        | some (some (.own es)), some b => if es.length = ds.length then some (.nx (env2.set i (some (.own (es.set m (.int (a + b))))))) else none
        | _, _ => none) env1
      | _ => none)
    | none => none)
  | _, _ => none) env else none
theorem pds_aug (i : Nat) {idx e : Expr} {st : Stmt} {fi fe : Mo SV} (h : PDE X E e fe) (hi : PDE X E idx fi) (mk : ∀ ti te, PE X idx ti → PE X e te → PS X st (tAugS (tVar i) ti te (rIxL X.K) (ipI fun i j => i + j) rSetL)) : PDS X np E st (augS i fi fe) := by
  obtain ⟨t, h1, h2⟩ := h
  obtain ⟨u, i1, i2⟩ := hi
  refine ⟨_, mk u t i1 h1, fun T O M env σ H D o hK hP r e p => ?_⟩
  unfold augS at e
  split at e
  · rename_i hi
    obtain ⟨ds0, hd0⟩ := isOwn_some hi
    obtain ⟨v, hv, _⟩ := r.at_ _ _ hd0
    obtain ⟨l, vs0, rfl, _, hl0, _⟩ := own_at r hd0 hv
    refine ⟨_, hv, ?_⟩
    refine i2.within (Q := fun k H2 => rIxL X.K (.ref l) k H2 fun x H3 => t σ H3 fun y H4 => ipI (fun i j => i + j) x y H4 fun z H5 => rSetL (.ref l) k z H5 fun H6 => D.nx σ H6) hK r e p fun k e1 w H1 ek r1 p1 rp1 s1 => ?_
    split at ek
    · rename_i ds j hd hj
      split at ek
      · rename_i m hm
        split at ek
        · rename_i a ha
          have := asI_some hj
          subst this
          obtain ⟨l', vs, e', hM, hl, hds⟩ := own_at r1 hd hv
          cases e'
          obtain ⟨va, hva, hda⟩ := DpAll.get hds ha
          refine ⟨l, vs, j, va, rfl, Dp.isInt rp1, SqL.of hl, ?_, ?_⟩
          · unfold atI; rw [DpAll.length hds, hm]; exact hva
          refine h2.within (Q := fun y H4 => ipI (fun i j => i + j) va y H4 fun z H5 => rSetL (.ref l) w z H5 fun H6 => D.nx σ H6) hK r1 ek p1 fun y e2 w2 H2 ek2 r2 p2 rp2 s2 => ?_
          split at ek2
          · rename_i es b hd2 hb
            split at ek2
            · rename_i hlen
              cases ek2
              have := asI_some hb
              subst this
              obtain ⟨l', vs2, e', _, hl2, hds2⟩ := own_at r2 hd2 hv
              cases e'
              obtain ⟨r3, s3⟩ := own_put (out := es.set m (.int (a + b))) r2 hd2 hv hM hl2 (DpAll.set (.int (a + b)) m hds2)
              exact ⟨a, b, Dp.isInt hda, Dp.isInt rp2, l, vs2, j, m, rfl, Dp.isInt rp1, hl2, by rw [DpAll.length hds2, hlen]; exact hm, p2 _ _ _ _ r3 s3⟩
            · cases ek2
          · cases ek2
        · cases ek
      · cases ek
    · cases ek
  · cases e
/-- len of an owned list -/
def ownLenM (i : Nat) : Mo SV := fun env => match env[i]? with
  | some (some (.own ds)) => some (.ok (.da (.int ds.length)) env)
  | _ => none
theorem pd_ownLen (i : Nat) {e : Expr} (mk : ∀ r, CallR X (.builtin "len") r → PE X e (tCB r (tCons (tVar i) L2.tNil))) : PDE X E e (ownLenM i) := by
  refine ⟨_, mk _ call_len_seq, fun T O M env σ H Q o hK r e p => ?_⟩
  unfold ownLenM at e
  split at e
  · rename_i ds hd
    cases e
    obtain ⟨v, hv, _⟩ := r.at_ _ _ hd
    obtain ⟨l, vs, rfl, hM, hl, hds⟩ := own_at r hd hv
    refine ⟨_, hv, l, vs, rfl, .inl (SqL.of hl), p _ H r Fr.refl ?_⟩
    rw [DpAll.length hds]
    exact .int _
  · cases e
end

/-! ### a whole def -/
def outOf : List Nat → PEnv → List PyData
  | [], _ => []
  | i :: _, e => match e[i]? with
    | some (some (.own ds)) => ds
    | _ => []
def runF (n : Nat) (g : MoS) (svs : List SV) : Option Res := match g (svs.map some ++ List.replicate (n - svs.length) none) with
  | some (.ret d e) => some (.ret d (outOf (ownAt 0 svs) e))
  | some (.nx e) => some (.ret (.da .none) (outOf (ownAt 0 svs) e))
  | some (.exc C fs) => some (.exc C fs)
  | _ => none
def runN (n np : Nat) (g : MoS) (svs : List SV) : Option Res := if svs.length = np then runF n g svs else none
theorem ownPar_cases (i : Nat) (v : V) (vs : List V) (s : SV) (svs : List SV) : (∃ l ds, v = .ref l ∧ s = .own ds ∧ ownPar i (v :: vs) (s :: svs) = (i, l) :: ownPar (i + 1) vs svs) ∨ ownPar i (v :: vs) (s :: svs) = ownPar (i + 1) vs svs := by
  cases s with
  | own ds =>
    cases v with
    | ref l => exact .inl ⟨l, ds, rfl, rfl, rfl⟩
    | non => exact .inr rfl
    | bl b => exact .inr rfl
    | int b => exact .inr rfl
    | str b => exact .inr rfl
    | byt b => exact .inr rfl
    | flt b => exact .inr rfl
    | ty b => exact .inr rfl
  | da d => right; cases v <;> rfl
  | obj C fs => right; cases v <;> rfl
  | dic C => right; cases v <;> rfl
theorem par_at : ∀ {i : Nat} {vs : List V} {svs : List SV} {j : Nat} {l : Addr} {ds}, vs[j]? = some (.ref l) → svs[j]? = some (.own ds) → (i + j, l) ∈ ownPar i vs svs
  | _, [], _, _, _, _, h, _ => by simp at h
  | _, _ :: _, [], _, _, _, _, h => by simp at h
  | i, v :: vs, s :: svs, 0, l, ds, h1, h2 => by
    simp only [List.getElem?_cons_zero, Option.some.injEq] at h1 h2
    subst h1 h2
    exact List.mem_cons_self
  | i, v :: vs, s :: svs, j + 1, l, ds, h1, h2 => by
    have ih := par_at (i := i + 1) (vs := vs) (svs := svs) (j := j) (by simpa using h1) (by simpa using h2)
    have e : i + 1 + j = i + (j + 1) := by omega
    rw [e] at ih
    rcases ownPar_cases i v vs s svs with ⟨l', ds', _, _, q⟩ | q
    · rw [q]; exact List.mem_cons_of_mem _ ih
    · rw [q]; exact ih
theorem at_par {K : PySem.W.Frag} {O M : List Addr} {H : Hp} : ∀ {i : Nat} {vs : List V} {svs : List SV} {p : Nat × Addr}, p ∈ ownPar i vs svs → i ≤ p.1 ∧ vs[p.1 - i]? = some (.ref p.2) ∧ (∃ ds, svs[p.1 - i]? = some (.own ds)) ∧ p.1 - i < svs.length
  | i, [], svs, p, h => by unfold ownPar at h; simp at h
  | i, v :: vs, [], p, h => by unfold ownPar at h; simp at h
  | i, v :: vs, s :: svs, p, h => by
    have step : p ∈ ownPar (i + 1) vs svs → i ≤ p.1 ∧ (v :: vs)[p.1 - i]? = some (.ref p.2) ∧ (∃ ds, (s :: svs)[p.1 - i]? = some (.own ds)) ∧ p.1 - i < (s :: svs).length := fun q => by
      obtain ⟨h1, h2, h3, h4⟩ := at_par (K := K) (O := O) (M := M) (H := H) q
      have e : p.1 - i = (p.1 - (i + 1)) + 1 := by omega
      rw [e]
      exact ⟨by omega, by simpa using h2, by simpa using h3, by simp; omega⟩
    rcases ownPar_cases i v vs s svs with ⟨l', ds', rfl, rfl, q⟩ | q
    · rw [q] at h
      rcases List.mem_cons.mp h with rfl | h
      · exact ⟨Nat.le_refl _, by simp, ⟨ds', by simp⟩, by simp⟩
      · exact step h
    · rw [q] at h; exact step h
theorem ownAt_par {K : PySem.W.Frag} {O M : List Addr} {H : Hp} : ∀ {i : Nat} {vs : List V} {svs : List SV}, Paired (RepS K O M H) vs svs → ownAt i svs = (ownPar i vs svs).map (·.1)
  | i, [], [], .nil => rfl
  | i, v :: vs, s :: svs, .cons h t => by
    have ih := ownAt_par (i := i + 1) t
    cases s with
    | own ds =>
      obtain ⟨l, _, rfl, _⟩ := h
      show i :: ownAt (i + 1) svs = i :: (ownPar (i + 1) vs svs).map (·.1)
      rw [ih]
    | da d =>
      show ownAt (i + 1) svs = _
      rw [ih]; cases v <;> rfl
    | obj C fs =>
      show ownAt (i + 1) svs = _
      rw [ih]; cases v <;> rfl
    | dic fs =>
      show ownAt (i + 1) svs = _
      rw [ih]; cases v <;> rfl
theorem paired_get {α β : Type} {F : α → β → Prop} : ∀ {xs : List α} {ys : List β} {i : Nat} {y : β}, Paired F xs ys → ys[i]? = some y → ∃ x, xs[i]? = some x ∧ F x y
  | _, _, _, _, .nil, e => by simp at e
  | _, _, 0, _, .cons r _, e => by simp at e; subst e; exact ⟨_, rfl, r⟩
  | _, _, i + 1, y, .cons _ t, e => by
    obtain ⟨v, h1, h2⟩ := paired_get (i := i) (y := y) t (by simpa using e)
    exact ⟨v, by simpa using h1, h2⟩
theorem start_get {N : List Str} {vs : List V} {i : Nat} (h : i < vs.length) : (L2.start N vs)[i]? = some vs[i]? := by
  unfold L2.start
  rw [List.getElem?_append_left (by simpa using h), List.getElem?_map, List.getElem?_eq_getElem h]; rfl
theorem le1_eq {α : Type} {l : List α} (h : l.length ≤ 1) {a b : α} (ha : a ∈ l) (hb : b ∈ l) : a = b := by
  match l, h with
  | [], _ => cases ha
  | [x], _ => rw [List.mem_singleton.mp ha, List.mem_singleton.mp hb]
  | _ :: _ :: _, h => simp at h
section
variable {P : Program} {w : World} {K : PySem.W.Frag} {mg : Str → Option Value} {base : Heap}
theorem fun_okC {x qual : Str} {st : Stmt} {f : Addr} {fd : FuncData} {N ps : List Str} {k : Nat} {sp : Sp} (F : Fun K x qual st f fd) (S : FnScope N ps (defScope st)) (len : ∀ vs H Q E, sp vs H Q E → vs.length = ps.length)
    (hb : ∀ (A : Around) (outer : List Env) (s : Shared) (H : Hp) (vs : List V) (Q : VK) (E : XK), Room k (A.deeper (envOfC qual (defScope st) s.heap.objs.size f fd.code)) → sp vs H Q E →
      ∃ t, PSs (cxOf (L2.CX P w) P w K mg base N qual (defScope st) f fd.code A outer s H E) (defBody st) t ∧ t { nx := fun _ H' => Q .non H', rt := Q } (L2.start N vs) H) : FnOk P w K mg base (L2.CX P w) (k + 1) f fd ps sp := by
  obtain ⟨oc, od, kV, doc, pm, an, cdv, ct, osl, rfl, lk, hcd⟩ := F.ex
  exact fn_of lk hcd S len fun A outer s H vs Q E hr hsp => hb A outer s H vs Q E hr hsp
theorem fnok_ofC {x qual : Str} {st : Stmt} {f : Addr} {fd : FuncData} {N ps : List Str} {k : Nat} {g : MoS} (Fn : Fun K x qual st f fd) (S : FnScope N ps (defScope st)) (hN : ps.length ≤ N.length)
    {tbs : List (Addr × Str)} (body : ∀ (A : Around) (outer : List Env) (s : Shared) (H : Hp) (E : XK), Room k (A.deeper (envOfC qual (defScope st) s.heap.objs.size f fd.code)) →
      PDSs (cxOf (L2.CX P w) P w K mg base N qual (defScope st) f fd.code A outer s H E) ps.length ⟨E, tbs⟩ (defBody st) g) : FnOk P w K mg base (L2.CX P w) (k + 1) f fd ps (spF K tbs (runN N.length ps.length g)) := by
  refine fun_okC Fn S (fun vs H Q E h => ?_) fun A outer s H vs Q E hr h => ?_
  · obtain ⟨O, Pw, svs, res, _, _, _, _, _, _, hp, hF, _⟩ := h
    unfold runN at hF
    split at hF
    · rename_i hl; rw [← hl]; exact Paired.length hp
    · cases hF
  · obtain ⟨O, Pw, svs, res, hlive, hsub, hPw, hle, htb, htO, hp, hF, hres⟩ := h
    unfold runN at hF
    split at hF
    · rename_i hlen
      obtain ⟨t, h1, h2⟩ := body A outer s H E hr
      refine ⟨t, h1, ?_⟩
      have hvl : vs.length = svs.length := Paired.length hp
      let T : Ent := ⟨K, H, O, ownPar 0 vs svs, tbs⟩
      have hKT : KT T K ⟨E, tbs⟩ := ⟨rfl, rfl⟩
      have env_get : ∀ (i : Nat) (sv : SV), (svs.map some ++ List.replicate (N.length - svs.length) none)[i]? = some (some sv) → svs[i]? = some sv := fun i sv h => by
        by_cases hi : i < svs.length
        · rw [List.getElem?_append_left (by simpa using hi), List.getElem?_map] at h
          cases q : svs[i]? with
          | none => rw [q] at h; cases h
          | some s => rw [q] at h; simpa using h
        · rw [List.getElem?_append_right (by simpa using hi)] at h
          rw [List.getElem?_replicate] at h
          split at h <;> simp at h
      have r0 : R T O (Pw ++ tbs.map (·.1)) (svs.map some ++ List.replicate (N.length - svs.length) none) (L2.start N vs) H := by
        refine ⟨?_, fun i sv h => ?_, fun i j a ds es h1 h2 h3 h4 => ?_, fun i j a ds es h1 h2 h3 h4 => ?_, hlive, fun l hl => ?_, fun _ h => h, fun l hl => ?_, fun _ _ h _ _ => h, fun p hp' => ?_, htb, fun p hp' => List.mem_append_right _ (List.mem_map_of_mem hp')⟩
        · unfold L2.start; simp [hvl]
        · obtain ⟨v, hv, rv⟩ := paired_get hp (env_get i sv h)
          have hi : i < vs.length := (List.getElem?_eq_some_iff.mp hv).1
          refine ⟨v, by rw [start_get hi, hv], ?_⟩
          cases sv with
          | da d => exact rv
          | obj C fs => exact rv
          | own ds => obtain ⟨l, xs, w1, w2, w3, w4⟩ := rv; exact ⟨l, xs, w1, List.mem_append_left _ w2, w3, w4⟩
          | dic ds => obtain ⟨l, xs, w, w1, w2, w3, w4⟩ := rv; exact ⟨l, xs, w, w1, List.mem_append_left _ w2, w3, w4⟩
        · have q1 := env_get i _ h1
          have q2 := env_get j _ h2
          have l1 : i < vs.length := by rw [hvl]; exact (List.getElem?_eq_some_iff.mp q1).1
          have l2 : j < vs.length := by rw [hvl]; exact (List.getElem?_eq_some_iff.mp q2).1
          rw [start_get l1] at h3
          rw [start_get l2] at h4
          have m1 := par_at (i := 0) (Option.some.inj h3) q1
          have m2 := par_at (i := 0) (Option.some.inj h4) q2
          have hle' : (ownPar 0 vs svs).length ≤ 1 := by rw [hPw, List.length_map] at hle; exact hle
          have := le1_eq hle' m1 m2
          simpa using congrArg Prod.fst this
        · obtain ⟨v, hv, rv⟩ := paired_get hp (env_get i _ h1)
          obtain ⟨l, xs, w, w1, w2, w3, w4⟩ := rv
          rw [hPw] at w2
          obtain ⟨q, hq, hql⟩ := List.mem_map.mp w2
          obtain ⟨_, q1, ⟨ds, q2⟩, q3⟩ := at_par (K := K) (O := O) (M := Pw) (H := H) hq
          obtain ⟨v', hv', rv'⟩ := paired_get hp q2
          rw [q1] at hv'
          cases hv'
          obtain ⟨l', vs', y1, y2, y3, y4⟩ := rv'
          cases y1
          rw [hql, w3] at y3
          cases y3
        · rcases List.mem_append.mp hl with z | z
          · exact hsub l z
          · obtain ⟨q, hq, rfl⟩ := List.mem_map.mp z
            exact htO q hq
        · rcases List.mem_append.mp hl with z | z
          · exact .inl (by rw [hPw] at z; exact z)
          · exact .inr (.inr z)
        · obtain ⟨_, q1, ⟨ds, q2⟩, q3⟩ := at_par (K := K) (O := O) (M := Pw) (H := H) hp'
          rw [Nat.sub_zero] at q1 q2 q3
          refine ⟨by rw [start_get (by rw [hvl]; exact q3), q1], ds, ?_⟩
          rw [List.getElem?_append_left (by simpa using q3), List.getElem?_map, q2]; rfl
      have hP : (∀ p ∈ T.par, p.1 < ps.length) ∧ ∀ l ∈ T.O, T.H l ≠ none := ⟨fun p hp' => by
        obtain ⟨_, _, _, q3⟩ := at_par (K := K) (O := O) (M := Pw) (H := H) hp'
        rw [← hlen]; simpa using q3, hlive⟩
      -- the end of the body
      have fin : ∀ (d : SV) (e : PEnv), res = .ret d (outOf (ownAt 0 svs) e) → ∀ O' M' σ' H' v, R T O' M' e σ' H' → RepR K O' H' v d → Q v H' := fun d e er O' M' σ' H' v r' rv => by
        subst er
        have sO : Same (cut O' H') (cut O H') := cut_same (fun _ _ e _ => e) fun b _ _ z => r'.ent b z
        refine hres v H' (fun b o hb nb => r'.frame b o hb (fun z => nb (List.mem_append_left _ (by rw [hPw]; exact z))) fun z => nb (List.mem_append_right _ z)) r'.tabs (fun l hl => ?_) (rv.mono sO)
        rw [hPw] at hl
        obtain ⟨p, hp', rfl⟩ := List.mem_map.mp hl
        obtain ⟨g1, es, g2⟩ := r'.pars p hp'
        obtain ⟨l', vs', e', _, g3, g4⟩ := own_at r' g2 g1
        cases e'
        refine ⟨vs', g3, ?_⟩
        have hout : outOf (ownAt 0 svs) e = es := by
          rw [ownAt_par hp]
          have hle' : (ownPar 0 vs svs).length ≤ 1 := by rw [hPw, List.length_map] at hle; exact hle
          have hp'' : p ∈ ownPar 0 vs svs := hp'
          match q : ownPar 0 vs svs, hle' with
          | [], _ => rw [q] at hp''; cases hp''
          | [y], _ =>
            rw [q] at hp''
            have ey := List.mem_singleton.mp hp''
            subst ey
            show outOf [p.1] e = es
            simp only [outOf, g2]
          | _ :: _ :: _, h => simp at h
        rw [hout]
        exact DpAll.mono sO _ _ g4
      unfold runF at hF
      split at hF
      · rename_i d e he
        refine h2 T O _ _ _ H _ (.ret d e) hKT hP r0 he fun O' M' σ' H' v r' s' rv => ?_
        exact fin d e (Option.some.inj hF).symm O' M' σ' H' v r' rv
      · rename_i e he
        refine h2 T O _ _ _ H _ (.nx e) hKT hP r0 he fun O' M' σ' H' r' s' => ?_
        exact fin _ e (Option.some.inj hF).symm O' M' σ' H' .non r' .non
      · rename_i C fs he
        have er := (Option.some.inj hF).symm
        subst er
        refine h2 T O _ _ _ H _ (.exc C fs) hKT hP r0 he fun od H' f tb x => ?_
        exact hres od H' (fun b o hb nb => f b o hb (fun z => nb (List.mem_append_left _ (by rw [hPw]; exact z))) fun z => nb (List.mem_append_right _ z)) tb x
      · cases hF
    · cases hF
theorem fnb_ofC {x qual : Str} {st : Stmt} {f : Addr} {fd : FuncData} {N ps : List Str} {k : Nat} {g : MoS} (Fn : Fun K x qual st f fd) (S : FnScope N ps (defScope st)) (hm : mg x = some (.ref f)) (hb : Binds K fd ps []) (hN : ps.length ≤ N.length)
    {tbs : List (Addr × Str)} (body : ∀ (A : Around) (outer : List Env) (s : Shared) (H : Hp) (E : XK), Room k (A.deeper (envOfC qual (defScope st) s.heap.objs.size f fd.code)) →
      PDSs (cxOf (L2.CX P w) P w K mg base N qual (defScope st) f fd.code A outer s H E) ps.length ⟨E, tbs⟩ (defBody st) g) : FnB P w K mg base tbs x (k + 1) ps.length (runN N.length ps.length g) :=
  ⟨f, fd, ps, hm, Fn.kp, hb, rfl, fnok_ofC Fn S hN body⟩
theorem fnb_of {x qual : Str} {st : Stmt} {f : Addr} {fd : FuncData} {N ps : List Str} {k : Nat} {g : MoS} (Fn : Fun K x qual st f fd) (S : FnScope N ps (defScope st)) (hm : mg x = some (.ref f)) (hb : Binds K fd ps []) (hN : ps.length ≤ N.length)
    {tbs : List (Addr × Str)} (body : ∀ (cdv : Value) (A : Around) (outer : List Env) (s : Shared) (H : Hp) (E : XK), Room k (A.deeper (envOfC qual (defScope st) s.heap.objs.size f cdv)) →
      PDSs (cxOf (L2.CX P w) P w K mg base N qual (defScope st) f cdv A outer s H E) ps.length ⟨E, tbs⟩ (defBody st) g) : FnB P w K mg base tbs x (k + 1) ps.length (runN N.length ps.length g) :=
  fnb_ofC Fn S hm hb hN fun A outer s H E hr => body fd.code A outer s H E hr
/-- another way to say what a def does -/
theorem FnB.say {tbs : List (Addr × Str)} {x : Str} {k n : Nat} {F G : List SV → Option Res} (h : FnB P w K mg base tbs x k n F) (hg : ∀ svs r, G svs = some r → F svs = some r) : FnB P w K mg base tbs x k n G := by
  obtain ⟨f, fd, ps, h1, h2, h3, h4, h5⟩ := h.ex
  exact ⟨f, fd, ps, h1, h2, h3, h4, h5.imp fun vs H Q E ⟨O, Pw, svs, res, a, b, c, d, e, e2, e3, hF, r⟩ => ⟨O, Pw, svs, res, a, b, c, d, e, e2, e3, hg _ _ hF, r⟩⟩
end
end Pd
end
section
set_option Elab.async false
set_option linter.all false
set_option maxRecDepth 100000
set_option maxHeartbeats 4000000
namespace Pd
open PySem PySem.Spec PyProof.Rows L2
section
variable {X : Cx} {E : Wish} {pos : Pos} {np : Nat}
/-! ### isinstance -/
def tyOfD : PyData → String
  | .none => "NoneType"
  | .bool _ => "bool"
  | .int _ => "int"
  | .str _ => "str"
  | .list _ => "list"
  | .tuple _ => "tuple"
  | .dict _ => "dict"
theorem tyx_of {K : PySem.W.Frag} {H : Hp} {v : V} {d : PyData} (h : Dp K H v d) : TyX K H v (.type (tyOfD d)) := by
  cases d with
  | none => cases h; exact .base .non
  | bool b => cases h; exact .base (.bl b)
  | int i => cases h; exact .base (.int i)
  | str x => cases h; exact .base (.str x)
  | list ds =>
    obtain ⟨a, xs, rfl, hs, _⟩ := Dp.isList h
    rcases hs with (e | ⟨o, e⟩) | ⟨o, its, n, e, hc, _⟩
    · exact .base (.lst e)
    · exact .base (.frz e)
    · exact .kList e hc
  | tuple ds =>
    obtain ⟨a, xs, rfl, hs, _⟩ := Dp.isTup h
    rcases hs with (e | ⟨o, e⟩) | ⟨o, its, n, e, hc, _⟩
    · exact .base (.tup e)
    · exact .fTuple e
    · exact .kTuple e hc
  | dict kvs => cases h
def isiD (T : String) : SV → Option SV
  | .da d => (kitB (tyOfD d) T).map fun b => .da (.bool b)
  | _ => none
def isiM (T : String) (f : Mo SV) : Mo SV := bindM f fun x => liftO (isiD T x)
theorem pd_isi {T : String} {e c : Expr} {p : Pos} {f : Mo SV} (hg : Gl X "isinstance") (hm : X.mg "isinstance" = none) (h : PDE X E e f) (hT : PE X c (tC (.ty T)))
    (he : starEach [e, c] X.env = (false, eval e X.env) :: starEach [c] X.env := by rfl) (hpl : (backTo pos (starEach [c] X.env)).any (·.1) = false := by rfl) (he2 : starEach [c] X.env = (false, eval c X.env) :: starEach [] X.env := by rfl) :
    PDE X E (.Call (.Name "isinstance" p) [e, c] [] pos) (isiM T f) := by
  obtain ⟨t, h1, h2⟩ := h
  refine ⟨_, pe_callB call_isi hg hm PyProof.Rows.boot_isinstance (pa_cons h1 (pa_cons hT pa_nil he2) he) (by decide) (by decide) he hpl, fun T' O M env σ H Q o hK rr ee p => ?_⟩
  refine h2.bind (Q := fun x H1 => rIsi X.K [x, .ty T] H1 Q) hK rr ee p.exc fun x e2 v H2 ek r2 f2 p2 => ?_
  obtain ⟨c, ec, rfl⟩ := lift_split ek
  unfold isiD at ec
  split at ec
  · rename_i d
    cases q : kitB (tyOfD d) T with
    | none => rw [q] at ec; cases ec
    | some b =>
      rw [q] at ec; cases ec
      exact ⟨v, .ty T, .type (tyOfD d), .type T, b, rfl, .ty T, (by rw [← hK.eq]; exact tyx_of (Dp.mono cut_le _ _ p2)), kit_ty q, p _ H2 r2 f2 (.bl b)⟩
  · cases ec
end
section
variable {P : Program} {w : World} {K : PySem.W.Frag} {mg : Str → Option Value} {base : Heap}
/-- a def, by its body's derivation and what is wanted of its meaning -/
theorem fnb_mk {x qual : Str} {st : Stmt} {f : Addr} {fd : FuncData} {N ps : List Str} {k : Nat} {tbs : List (Addr × Str)} {G : (List SV → Option Res) → Prop} (Fn : Fun K x qual st f fd) (S : FnScope N ps (defScope st)) (hm : mg x = some (.ref f)) (hb : L2.Binds K fd ps []) (hN : ps.length ≤ N.length)
    (h : ∃ g : MoS, (∀ (cdv : Value) (A : Around) (outer : List Env) (s : Shared) (H : Hp) (E : XK), Room k (A.deeper (envOfC qual (defScope st) s.heap.objs.size f cdv)) →
      PDSs (cxOf (L2.CX P w) P w K mg base N qual (defScope st) f cdv A outer s H E) ps.length ⟨E, tbs⟩ (defBody st) g) ∧ G (Pd.runN N.length ps.length g)) : ∃ F, FnB P w K mg base tbs x (k + 1) ps.length F ∧ G F := by
  obtain ⟨g, h1, h2⟩ := h
  exact ⟨_, fnb_of Fn S hm hb hN h1, h2⟩
theorem passE {N : List Str} {qual : Str} {sc : Scope} {f : Addr} {cdv : Value} {A : Around} {outer : List Env} {s : Shared} {H : Hp} {E : XK} {tbs : List (Addr × Str)} :
    PasW (cxOf (L2.CX P w) P w K mg base N qual sc f cdv A outer s H E) ⟨E, tbs⟩ := ⟨passes_call (takes_of rfl rfl rfl rfl) fun _ _ _ _ h => h⟩
theorem passB {X : Cx} {tbs : List (Addr × Str)} : PasW X ⟨E0, tbs⟩ := ⟨fun _ _ _ _ _ _ _ z => by
  obtain ⟨_, _, _, _, _, _, _, _, _, _, _, _, z⟩ := z
  exact z.elim⟩
end
end Pd
end
section
set_option Elab.async false
set_option linter.all false
set_option maxRecDepth 100000
set_option maxHeartbeats 4000000
namespace Pd
open PySem PySem.Spec PyProof.Rows L2
/-! ### a list or a tuple, walked -/
section
variable {X : Cx}
theorem pi_seq {tg l : Expr} {tl : TE} (hl : PE X l tl) : PI X tg l (fun σ H Rk => tl σ H fun x H1 => ∃ a, x = V.ref a ∧ (((∃ xs, SqL X.K H1 a xs) ∧ Rk (Itl X.K a) H1) ∨ ((∃ xs, SqT X.K H1 a xs) ∧ Rk (Itt X.K a) H1))) := by
  refine ⟨fun pins s σ H Rk I hh => thn (hl.run pins s σ H _ I hh) fun v s1 ⟨x, H1, I1, rx, a, ex, alt⟩ => ?_⟩
  subst ex
  obtain rfl : v = Value.ref a := rx
  have fr0 : ∀ b ∈ [s1.heap.objs.size], FpOk X pins H1 b := fun b hb => by
    rw [List.mem_singleton.mp hb]; exact I1.fpOk (Nat.le_refl _) (I1.hok.fresh (Nat.le_refl _))
  rcases alt with ⟨⟨xs, hx⟩, k⟩ | ⟨⟨xs, hx⟩, k⟩
  · obtain ⟨its, _, pl, _⟩ := I1.list hx
    exact wpAny_pyIter_list pl.isList ⟨_, _, _, _, H1, rfl, I1.kept (t' := s1.toks) fun _ _ z => Heap.get?_push_of_some _ z, turn_list a _, ⟨_, Heap.get?_push_size _ rfl, rfl, rfl⟩, fr0, k⟩
  · obtain ⟨its, _, pl, _⟩ := I1.tuple hx
    exact wpAny_pyIter_tuple (show s1.heap.IsTuple a its.toArray from pl) ⟨_, _, _, _, H1, rfl, I1.kept (t' := s1.toks) fun _ _ z => Heap.get?_push_of_some _ z, turn_tuple a _, ⟨_, Heap.get?_push_size _ rfl, rfl, rfl⟩, fr0, k⟩
end
/-! ### enumerate(tuple) -/
set_option maxHeartbeats 1000000 in
theorem meets_enumT (l : Addr) (items : Array Value) :
    Meets (Builtin.«enumerate.__new__» ⟨[.type "enumerate", .ref l], []⟩) (fun _ R s => s.heap.IsTuple l items ∧
      R (.ok (.ret (.ref (s.heap.push { cls := .type "tuple_iterator", data := .fields #[.ref l, .int 0 0] }).objs.size)))
        { s with heap := (s.heap.push { cls := .type "tuple_iterator", data := .fields #[.ref l, .int 0 0] }).push { cls := .type "enumerate", data := .fields #[.none, .bool false, .ref s.heap.objs.size, rawInt 0, .none, .none] } }) :=
  .of_wp fun prog w A R s h => by
    obtain ⟨hT, h⟩ := h
    obtain ⟨hp, g, d, tk, os⟩ := s
    have hsub := sub_enumerate
    obtain ⟨oT, gT, cT, nT, dT⟩ := id hT
    wp_walk
    refine wpAny_stack_any fun st => wpAny_pure ?_
    split
    · rename_i c _ _ _ _ _
      cases (c == Value.type "enumerate")
      · wp_walk using wpAny_loadPart' gT, wpAny_pyIter_tuple hT
        exact ⟨_, rfl, h⟩
      · wp_walk using wpAny_loadPart' gT, wpAny_pyIter_tuple hT
        exact ⟨_, rfl, h⟩
    · wp_walk using wpAny_loadPart' gT, wpAny_pyIter_tuple hT
      exact ⟨_, rfl, h⟩
end Pd
end
section
set_option Elab.async false
set_option linter.all false
set_option maxRecDepth 100000
set_option maxHeartbeats 4000000
namespace Pd
open PySem PySem.Spec PyProof.Rows L2
theorem call_enumT {prog : Program} {w : World} {A : Around} {E : Value → Shared → Prop} {s : Shared} {l : Addr} {items : Array Value} {Q : Value → Shared → Prop} (hT : s.heap.IsTuple l items)
    (k : ∀ h', IsEnum h' (s.heap.objs.size + 1) s.heap.objs.size 0 .none → h'.IsTupleIter s.heap.objs.size l 0 → h'.objs.size = s.heap.objs.size + 2 → (∀ b o, s.heap.get? b = some o → h'.get? b = some o) → Q (.ref (s.heap.objs.size + 1)) { s with heap := h' }) :
    wpAny (model prog w) A (call (.type "enumerate") [.ref l]) Q E s := by
  refine callType_new F.called_enumerate (by decide) (F.typeCall_enumerate_1 _) (F.newCall_enumerate_1 _) (fun obj => F.args_object_init_2 obj _) F.entry_enumerate_new (meets_enumT l items) ⟨hT, ?_⟩
  have z1 : (s.heap.push { cls := .type "tuple_iterator", data := .fields #[.ref l, .int 0 0] }).objs.size = s.heap.objs.size + 1 := Heap.size_push ..
  refine ⟨⟨_, Heap.get?_push_size _ rfl, rfl⟩, ?_⟩
  show Q (.ref _) _
  rw [z1]
  refine k _ ?_ ?_ ?_ fun b o e => Heap.get?_push_of_some _ (Heap.get?_push_of_some _ e)
  · have q := Heap.get?_push_size (s.heap.push { cls := .type "tuple_iterator", data := .fields #[.ref l, .int 0 0] }) (o := { cls := .type "enumerate", data := .fields #[.none, .bool false, .ref s.heap.objs.size, rawInt 0, .none, .none] }) rfl
    rw [z1] at q; exact q
  · exact ⟨_, Heap.get?_push_of_some _ (Heap.get?_push_size _ rfl), rfl, rfl⟩
  · rw [Heap.size_push, z1]
def IteT (K : PySem.W.Frag) (a : Addr) : It where
  go := fun i H => ∃ (xs : List V) (x : V), SqT K H a xs ∧ xs[i]? = some x
  yld := fun i H v H' => ∃ T x, v = V.ref T ∧ H T = none ∧ H' = upd H T (HO.tup [V.int (i : Nat), x]) ∧ ∀ xs, SqT K H a xs → xs[i]? = some x
  stop := fun i H => ∃ xs : List V, SqT K H a xs ∧ xs.length = i
theorem turn_enumT {P : Program} {w : World} {K : PySem.W.Frag} {elts : List Expr} {kk : Nat} {tpos : Pos} (a e it : Addr) (hei : e ≠ it) (hea : e ≠ a) (hai : a ≠ it) :
    Turn P w K (.Tuple elts kk tpos) (IteT K a) [e, it] e (fun i h => (∃ prev, IsEnum h e it ((i : Nat) : Int) prev) ∧ h.IsTupleIter it a i) where
  mem := List.mem_cons_self
  obj := fun i h st b hb => by
    obtain ⟨⟨prev, g1⟩, ⟨o, g2, _, g3⟩⟩ := st
    rcases List.mem_cons.mp hb with rfl | hb
    · exact ⟨_, g1, fun _ z => nomatch z⟩
    · rw [List.mem_singleton.mp hb]; exact ⟨o, g2, fun _ z => by rw [g3] at z; cases z⟩
  keep := fun i h h' st k => ⟨let ⟨prev, g1⟩ := st.1; ⟨prev, k e List.mem_cons_self _ g1⟩, st.2.at fun o z => k it (by simp) o z⟩
  item := by
    intro X hP hw hK hc i pins s σ H E I fp0 st hgo
    subst hP hw hK
    obtain ⟨⟨prev, g1⟩, g2⟩ := st
    obtain ⟨xs, x, hq, hx⟩ := hgo
    obtain ⟨its, rv, pT, _⟩ := I.tuple hq
    obtain ⟨u, hu, ru⟩ := rv.get hx
    have isT : s.heap.IsTuple a its.toArray := pT
    have lt_i : i < its.toArray.size := by rw [List.size_toArray]; exact (List.getElem?_eq_some_iff.mp hu).1
    have lt_e : e < s.heap.objs.size := Heap.lt_size g1
    have lt_it : it < s.heap.objs.size := by obtain ⟨_, z, _⟩ := g2; exact Heap.lt_size z
    refine wpAny_pyNext_enum_itemD (Draws.tuple (A := X.A.in1) (I.ok.hd hc) it a hai its.toArray) g1 ⟨g2, isT⟩ lt_i hei (by simp [hei, hea]) fun y h' tk hy ho hst hT hsz hk => ?_
    have ey : y = u := by
      have z : its.toArray[i]? = some y := hy
      rw [show its.toArray[i]? = its[i]? by simp, hu] at z
      exact (Option.some.inj z).symm
    subst ey
    refine ⟨_, rfl, wpAny_letOwnedTupleGo_enum (s := { s with heap := h', toks := tk + 1 }) ho fun h2 g3 sb => ?_⟩
    have atT : h2.get? s.heap.objs.size = some { cls := .type "tuple", data := .seq #[.int i tk, y] } := (sb.2 _ (Nat.ne_of_gt lt_e)).trans hT
    have lay : ObjOk X.prog X.w (upd H s.heap.objs.size (.tup [.int (i : Nat), x])) h2 s.heap.objs.size (.tup [.int (i : Nat), x]) :=
      ⟨(by show 2 ≤ sizeLine; decide), [.int i tk, y], .cons ⟨_, rfl⟩ (.cons ru .nil), ⟨_, atT, rfl, _, rfl⟩⟩
    have I2 := I.turnedNew (t' := tk + 1) (ch := [e, it]) (fun b ob nb z => (sb.2 b (fun q => nb (by simp [q]))).trans (hk b ob (fun q => nb (by simp [q])) (fun q => nb (by simp [q])) z)) fp0 (Nat.le_refl _) lay
    refine ⟨.ref s.heap.objs.size, _, I2, rfl, ⟨_, x, rfl, I.hok.fresh (Nat.le_refl _), rfl, fun ys hy2 => by rw [I.tuple_inj hy2 hq]; exact hx⟩, ⟨⟨y, ?_⟩, hst.1.at fun o z => (sb.2 it (Ne.symm hei)).trans z⟩, fun b hb => ?_⟩
    · rw [show ((i + 1 : Nat) : Int) = (i : Int) + 1 by omega]; exact g3
    · have lt_b : b < s.heap.objs.size := by
        rcases List.mem_cons.mp hb with rfl | hb
        · exact lt_e
        · rw [List.mem_singleton.mp hb]; exact lt_it
      rw [upd_ne (Nat.ne_of_lt lt_b)]
      exact (fp0 b hb).1
  done := by
    intro X hP hw hK hc i pins s σ H E I fp0 st hstop
    subst hP hw hK
    obtain ⟨⟨prev, g1⟩, g2⟩ := st
    obtain ⟨xs, hq, hx⟩ := hstop
    obtain ⟨its, rv, pT, _⟩ := I.tuple hq
    have isT : s.heap.IsTuple a its.toArray := pT
    have ez : i = its.toArray.size := by rw [List.size_toArray, ← rv.length]; exact hx.symm
    subst ez
    have fpi := fp0 it (by simp)
    exact wpAny_pyNext_enum_endD (Draws.tuple (A := X.A.in1) (I.ok.hd hc) it a hai its.toArray) g1 ⟨g2, isT⟩ fun h' eb => ⟨rfl, I.turned (t' := s.toks) (fun b o nb z => eb b o nb z) fpi.1 fpi.2.1 fpi.2.2.2.1 fpi.2.2.2.2.1 fpi.2.2.2.2.2⟩
  self := fun A i s Q E st k => by
    obtain ⟨⟨_, g1⟩, _⟩ := st
    exact wpAny_pyIter_enum g1 k
theorem walk_enumT {K : PySem.W.Frag} {a : Addr} {xs : List V} : Walk (IteT K a) xs.length (fun H => SqT K H a xs) (YPair (fun i => some (.int (i : Nat))) (fun i => xs[i]?)) where
  goes := fun i H hi g => ⟨xs, xs[i], g, List.getElem?_eq_getElem hi⟩
  stops := fun H g => ⟨xs, g, rfl⟩
  yields := fun i H v H' _ g y => by
    obtain ⟨T, x, e1, e2, e3, e4⟩ := y
    exact ⟨T, _, x, e1, e2, e3, rfl, e4 xs g⟩
section
variable {X : Cx} {E : Wish} {pos : Pos}
theorem pi_enumS {e : Expr} {ta : TA} {p tpos : Pos} {elts : List Expr} {kk : Nat} (hg : Gl X "enumerate") (hm : X.mg "enumerate" = none) (ha : PA X [e] ta) (hs : starEach [e] X.env = [(false, eval e X.env)] := by rfl) :
    PI X (.Tuple elts kk tpos) (.Call (.Name "enumerate" p) [e] [] pos) (fun σ H Rk => ta σ H fun vs H1 => ∃ a, vs = [V.ref a] ∧ (((∃ xs, SqL X.K H1 a xs) ∧ Rk (Ite X.K a) H1) ∨ ((∃ xs, SqT X.K H1 a xs) ∧ Rk (IteT X.K a) H1))) := by
  refine ⟨fun pins s σ H Rk I hh => Call_ (ld_blt I hg hm boot_enumerate (PyProof.Rows.callWith_type1 (thn (ha.run pos pins s σ H _ I hh) fun us s1 ⟨vs, H1, I1, rv, a, ev, alt⟩ => ?_) hs rfl))⟩
  subst ev
  rw [Vals.ref1 rv]
  have fr2 : ∀ b ∈ [s1.heap.objs.size + 1, s1.heap.objs.size], FpOk X pins H1 b := fun b hb => by
    have le : s1.heap.objs.size ≤ b := by
      rcases List.mem_cons.mp hb with rfl | hb
      · exact Nat.le_succ _
      · rw [List.mem_singleton.mp hb]; exact Nat.le_refl _
    exact I1.fpOk le (I1.hok.fresh le)
  rcases alt with ⟨⟨xs, hx⟩, k⟩ | ⟨⟨xs, hx⟩, k⟩
  · obtain ⟨its, _, pl, _⟩ := I1.list hx
    refine call_enumerate_list pl.isList fun h' z1 z2 z3 z4 => wpAny_pyIter_enum z1 ?_
    exact ⟨_, _, _, _, H1, rfl, I1.kept (t' := s1.toks) z4, turn_enum a (s1.heap.objs.size + 1) s1.heap.objs.size, ⟨⟨_, z1⟩, z2, Nat.succ_ne_self _⟩, fr2, k⟩
  · obtain ⟨its, _, pl, _⟩ := I1.tuple hx
    have lt_a : a < s1.heap.objs.size := pl.lt
    refine call_enumT (show s1.heap.IsTuple a its.toArray from pl) fun h' z1 z2 z3 z4 => wpAny_pyIter_enum z1 ?_
    exact ⟨_, _, _, _, H1, rfl, I1.kept (t' := s1.toks) z4, turn_enumT a (s1.heap.objs.size + 1) s1.heap.objs.size (Nat.succ_ne_self _) (Nat.ne_of_gt (Nat.lt_succ_of_lt lt_a)) (Nat.ne_of_lt lt_a), ⟨⟨_, z1⟩, z2⟩, fr2, k⟩
/-! ### as data -/
def seqOf : SV → Option (List PyData)
  | .da (.list ds) => some ds
  | .da (.tuple ds) => some ds
  | _ => none
def siM (f : Mo SV) : Mo (List PyData) := bindM f fun x => liftO (seqOf x)
theorem pdi_seq {tg iter : Expr} {f : Mo SV} (h : PDE X E iter f) : PDI X E tg iter (siM f) := by
  obtain ⟨t, h1, h2⟩ := h
  refine ⟨_, pi_seq h1, fun T O M env σ H Rk o hK rr ee p => ?_⟩
  refine h2.bind (Q := fun x H1 => ∃ a, x = V.ref a ∧ (((∃ xs, SqL X.K H1 a xs) ∧ Rk (Itl X.K a) H1) ∨ ((∃ xs, SqT X.K H1 a xs) ∧ Rk (Itt X.K a) H1))) hK rr ee p.exc fun y e2 v H2 ek r2 f2 p2 => ?_
  obtain ⟨c, ec, rfl⟩ := lift_split ek
  unfold seqOf at ec
  split at ec
  · cases ec
    obtain ⟨a, xs, rfl, h3, h4⟩ := Dp.isList p2
    rw [hK.eq] at h3 h4
    exact ⟨a, rfl, .inl ⟨⟨xs, cut_le.seq h3⟩, p _ H2 r2 f2 (by rw [hK.eq]; exact itd_list h3 h4)⟩⟩
  · cases ec
    obtain ⟨a, xs, rfl, h3, h4⟩ := Dp.isTup p2
    rw [hK.eq] at h3 h4
    exact ⟨a, rfl, .inr ⟨⟨xs, Same.seqT cut_le h3⟩, p _ H2 r2 f2 (by rw [hK.eq]; exact itd_tup h3 h4)⟩⟩
  · cases ec
def enumL (ds : List PyData) : List PyData := ds.mapIdx fun i d => .tuple [.int (i : Nat), d]
theorem enumL_length (ds : List PyData) : (enumL ds).length = ds.length := List.length_mapIdx
theorem pair_step {K : PySem.W.Frag} {O' : List Addr} {H : Hp} {x : V} {H' : Hp} {y z : V} {T : Addr} {a b : PyData} (l : Live O' H) (hn : H T = none) (hx : x = .ref T) (hH : H' = upd H T (.tup [y, z])) (ha : Dp K (cut O' H) y a) (hb : Dp K (cut O' H) z b) : Same H H' ∧ Dp K (cut O' H') x (.tuple [a, b]) := by
  subst hx hH
  exact ⟨same_upd hn, rep_tup hn (l.new hn) (.cons ha (.cons hb .nil))⟩
theorem itd_enum {K : PySem.W.Frag} {O : List Addr} {H : Hp} {J : It} {xs : List V} {ds : List PyData} {G : Hp → Prop} (hd : DpAll K (cut O H) xs ds) (hG : ∀ O' H', Same (cut O H) (cut O' H') → G H') (wk : Walk J xs.length G (YPair (fun i => some (.int (i : Nat))) (fun i => xs[i]?))) : ItD K O H J (enumL ds) := by
  refine ⟨G, _, by rw [enumL_length, ← DpAll.length hd]; exact wk, hG, fun O' i H0 x H' d l s y e => ?_⟩
  obtain ⟨T, p, q, hx, hn, hH, hp, hq⟩ := y
  have ep : V.int (i : Nat) = p := Option.some.inj hp
  subst ep
  obtain ⟨d', e', hd'⟩ := DpAll.getV hd hq
  unfold enumL at e
  rw [List.getElem?_mapIdx, e'] at e
  cases e
  exact pair_step l hn hx hH (.int _) (Dp.mono s _ _ hd')
def eiM (f : Mo (List Arg)) : Mo (List PyData) := bindM f fun as => liftO (match vals as with
  | some [s] => (seqOf s).map enumL
  | _ => none)
theorem pdi_enum {e : Expr} {p tpos : Pos} {elts : List Expr} {kk : Nat} {f : Mo (List Arg)} (hg : Gl X "enumerate") (hm : X.mg "enumerate" = none) (h : PDA X E [e] f) (hs : starEach [e] X.env = [(false, eval e X.env)] := by rfl) :
    PDI X E (.Tuple elts kk tpos) (.Call (.Name "enumerate" p) [e] [] pos) (eiM f) := by
  obtain ⟨t, h1, h2⟩ := h
  refine ⟨_, pi_enumS hg hm h1 hs, fun T O M env σ H Rk o hK rr ee p => ?_⟩
  refine h2.bind (Q := fun vs H1 => ∃ a, vs = [V.ref a] ∧ (((∃ xs, SqL X.K H1 a xs) ∧ Rk (Ite X.K a) H1) ∨ ((∃ xs, SqT X.K H1 a xs) ∧ Rk (IteT X.K a) H1))) hK rr ee p.exc fun y e2 us H2 ek r2 f2 p2 => ?_
  obtain ⟨c, ec, rfl⟩ := lift_split ek
  split at ec
  · rename_i s hv
    have hr := vals_rep p2 hv
    obtain ⟨v, rfl, rv⟩ := paired1 hr
    unfold seqOf at ec
    split at ec
    · cases ec
      obtain ⟨a, xs, rfl, h3, h4⟩ := Dp.isList rv
      rw [hK.eq] at h3 h4
      exact ⟨a, rfl, .inl ⟨⟨xs, cut_le.seq h3⟩, p _ H2 r2 f2 (by rw [hK.eq]; exact itd_enum h4 (fun O' H' s => cut_le.seq (s.seq h3)) walk_enum)⟩⟩
    · cases ec
      obtain ⟨a, xs, rfl, h3, h4⟩ := Dp.isTup rv
      rw [hK.eq] at h3 h4
      exact ⟨a, rfl, .inr ⟨⟨xs, Same.seqT cut_le h3⟩, p _ H2 r2 f2 (by rw [hK.eq]; exact itd_enum h4 (fun O' H' s => Same.seqT cut_le (Same.seqT s h3)) walk_enumT)⟩⟩
    · cases ec
  · cases ec
end
end Pd
end
section
set_option Elab.async false
set_option linter.all false
set_option maxRecDepth 100000
set_option maxHeartbeats 4000000
namespace Pd
open PySem PySem.Spec PyProof.Rows L2
/-! ### zip(list, tuple) -/
def ItzM (K : PySem.W.Frag) (a b : Addr) : It where
  go := fun i H => ∃ (xs ys : List V) (x y : V), SqL K H a xs ∧ SqT K H b ys ∧ xs[i]? = some x ∧ ys[i]? = some y
  yld := fun i H v H' => ∃ T x y, v = V.ref T ∧ H T = none ∧ H' = upd H T (HO.tup [x, y]) ∧ (∀ xs, SqL K H a xs → xs[i]? = some x) ∧ ∀ ys, SqT K H b ys → ys[i]? = some y
  stop := fun i H => ∃ xs ys : List V, SqL K H a xs ∧ SqT K H b ys ∧ i = min xs.length ys.length
theorem turn_zipM {P : Program} {w : World} {K : PySem.W.Frag} {elts : List Expr} {kk : Nat} {tpos : Pos} (a b z TI TO i1 i2 : Addr) (D : ZipSep2 z TI TO i1 i2 [i1, a] [i2, b]) (na : a ≠ i1) (nb : b ≠ i2) :
    Turn P w K (.Tuple elts kk tpos) (ItzM K a b) [z, TI, TO, i1, i2] z (fun i h => IsZip h z TI TO .none ∧ IsTupOf2 h TI (.ref i1) (.ref i2) ∧ (∃ x y, IsTupOf2 h TO x y) ∧ h.IsListIter i1 a i ∧ h.IsTupleIter i2 b i) where
  mem := List.mem_cons_self
  obj := fun i h st c hc => by
    obtain ⟨hz, hI, ⟨x, y, hO⟩, ⟨o1, g1, _, d1⟩, ⟨o2, g2, _, d2⟩⟩ := st
    simp only [List.mem_cons, List.mem_nil_iff, or_false] at hc
    rcases hc with rfl | rfl | rfl | rfl | rfl
    · exact ⟨_, hz, fun _ q => nomatch q⟩
    · exact ⟨_, hI, fun _ q => nomatch q⟩
    · exact ⟨_, hO, fun _ q => nomatch q⟩
    · exact ⟨o1, g1, fun _ q => by rw [d1] at q; cases q⟩
    · exact ⟨o2, g2, fun _ q => by rw [d2] at q; cases q⟩
  keep := fun i h h' st k => by
    obtain ⟨hz, hI, ⟨x, y, hO⟩, g1, g2⟩ := st
    exact ⟨k _ (by simp) _ hz, k _ (by simp) _ hI, ⟨x, y, k _ (by simp) _ hO⟩, g1.at fun o q => k _ (by simp) o q, g2.at fun o q => k _ (by simp) o q⟩
  item := by
    intro X hP hw hK hc i pins s σ H E I fp0 st hgo
    subst hP hw hK
    obtain ⟨hz, hI, ⟨x0, y0, hO⟩, g1, g2⟩ := st
    obtain ⟨xs, ys, x, y, hx, hy, ex, ey⟩ := hgo
    obtain ⟨its, rv, pl, _⟩ := I.list hx
    obtain ⟨jts, rw', pT, _⟩ := I.tuple hy
    obtain ⟨u, hu, ru⟩ := rv.get ex
    obtain ⟨v, hv, rv'⟩ := rw'.get ey
    have isT : s.heap.IsTuple b jts.toArray := pT
    have l1 : i < its.toArray.size := by rw [List.size_toArray]; exact (List.getElem?_eq_some_iff.mp hu).1
    have l2 : i < jts.toArray.size := by rw [List.size_toArray]; exact (List.getElem?_eq_some_iff.mp hv).1
    have hh : X.A.in1.handled = none := I.ok.hd hc
    refine wpAny_pyNext_zipD2_item D (Draws.list hh i1 a na its.toArray) (Draws.tuple hh i2 b nb jts.toArray) hz hI hO ⟨g1, pl.isList⟩ ⟨g2, isT⟩ l1 l2 fun x1 x2 h' tk p1 p2 hz' hO' s1 s2 hT hsz hk => ?_
    have e1 : x1 = u := by
      have q : its.toArray[i]? = some x1 := p1
      rw [show its.toArray[i]? = its[i]? by simp, hu] at q
      exact (Option.some.inj q).symm
    have e2 : x2 = v := by
      have q : jts.toArray[i]? = some x2 := p2
      rw [show jts.toArray[i]? = jts[i]? by simp, hv] at q
      exact (Option.some.inj q).symm
    subst e1 e2
    refine ⟨_, rfl, wpAny_letOwnedTupleGo_zip (s := { s with heap := h', toks := tk }) hz' fun h2 hz2 sb => ?_⟩
    have lz : z < s.heap.objs.size := Heap.lt_size hz
    have lO : TO < s.heap.objs.size := Heap.lt_size hO
    have lI : TI < s.heap.objs.size := Heap.lt_size hI
    have m1 : i1 < s.heap.objs.size := by obtain ⟨_, q, _⟩ := g1; exact Heap.lt_size q
    have m2 : i2 < s.heap.objs.size := by obtain ⟨_, q, _⟩ := g2; exact Heap.lt_size q
    have atT : h2.get? s.heap.objs.size = some { cls := .type "tuple", data := .seq #[x1, x2] } := (sb.2 _ (Nat.ne_of_gt lz)).trans hT
    have lay : ObjOk X.prog X.w (upd H s.heap.objs.size (.tup [x, y])) h2 s.heap.objs.size (.tup [x, y]) := ⟨(by show 2 ≤ sizeLine; decide), [x1, x2], .cons ru (.cons rv' .nil), ⟨_, atT, rfl, _, rfl⟩⟩
    have keepT : ∀ c o, c ≠ z → c ≠ TO → c ≠ i1 → c ≠ i2 → s.heap.get? c = some o → h2.get? c = some o := fun c o n1 n2 n3 n4 q => (sb.2 c n1).trans (hk c o n1 n2 n3 n4 q)
    have I2 := I.turnedNew (t' := tk) (ch := [z, TO, i1, i2]) (fun c o nc q => keepT c o (fun e => nc (by simp [e])) (fun e => nc (by simp [e])) (fun e => nc (by simp [e])) (fun e => nc (by simp [e])) q)
      (fun c hc' => fp0 c (by simp only [List.mem_cons, List.mem_nil_iff, or_false] at hc' ⊢; rcases hc' with q | q | q | q <;> simp [q])) (Nat.le_refl _) lay
    refine ⟨.ref s.heap.objs.size, _, I2, rfl, ⟨_, x, y, rfl, I.hok.fresh (Nat.le_refl _), rfl, fun ks hks => by rw [I.list_inj hks hx]; exact ex, fun ks hks => by rw [I.tuple_inj hks hy]; exact ey⟩, ⟨hz2, ?_, ⟨x1, x2, ?_⟩, ?_, ?_⟩, fun c hc' => ?_⟩
    · exact keepT TI _ D.TIz D.TITO D.TIi1 D.TIi2 hI
    · exact (sb.2 TO D.TOz).trans hO'
    · exact s1.1.at fun o q => (sb.2 i1 (Ne.symm D.zi1)).trans q
    · exact s2.1.at fun o q => (sb.2 i2 (Ne.symm D.zi2)).trans q
    · have lc : c < s.heap.objs.size := by
        simp only [List.mem_cons, List.mem_nil_iff, or_false] at hc'
        rcases hc' with rfl | rfl | rfl | rfl | rfl <;> assumption
      rw [upd_ne (Nat.ne_of_lt lc)]
      exact (fp0 c hc').1
  done := by
    intro X hP hw hK hc i pins s σ H E I fp0 st hstop
    subst hP hw hK
    obtain ⟨hz, hI, ⟨x0, y0, hO⟩, g1, g2⟩ := st
    obtain ⟨xs, ys, hx, hy, hi⟩ := hstop
    obtain ⟨its, rv, pl, _⟩ := I.list hx
    obtain ⟨jts, rw', pT, _⟩ := I.tuple hy
    have isT : s.heap.IsTuple b jts.toArray := pT
    have hh : X.A.in1.handled = none := I.ok.hd hc
    have e1 := rv.length
    have e2 := rw'.length
    refine wpAny_pyNext_zipD2_end D (Draws.list hh i1 a na its.toArray) (Draws.tuple hh i2 b nb jts.toArray) hz hI hO ⟨g1, pl.isList⟩ ⟨g2, isT⟩ (by rw [List.size_toArray]; omega) (by rw [List.size_toArray]; omega) (by rw [List.size_toArray, List.size_toArray]; omega) fun h' tk hk => ⟨rfl, ?_⟩
    exact I.turnedL (t' := tk) (ch := [z, TO, i1, i2]) (fun c o nc q => hk c o (fun e => nc (by simp [e])) (fun e => nc (by simp [e])) (fun e => nc (by simp [e])) (fun e => nc (by simp [e])) q)
      (fun c hc' => fp0 c (by simp only [List.mem_cons, List.mem_nil_iff, or_false] at hc' ⊢; rcases hc' with q | q | q | q <;> simp [q]))
  self := fun A i s Q E st k => wpAny_pyIter_zip st.1 k
theorem walk_zipM {K : PySem.W.Frag} {a b : Addr} {xs ys : List V} : Walk (ItzM K a b) (min xs.length ys.length) (fun H => SqL K H a xs ∧ SqT K H b ys) (YPair (fun i => xs[i]?) (fun i => ys[i]?)) where
  goes := fun i H hi g => ⟨xs, ys, xs[i]'(by omega), ys[i]'(by omega), g.1, g.2, List.getElem?_eq_getElem _, List.getElem?_eq_getElem _⟩
  stops := fun H g => ⟨xs, ys, g.1, g.2, rfl⟩
  yields := fun i H v H' _ g y => by
    obtain ⟨T, p, q, e1, e2, e3, e4, e5⟩ := y
    exact ⟨T, p, q, e1, e2, e3, e4 xs g.1, e5 ys g.2⟩
theorem walk_zipTT {K : PySem.W.Frag} {a b : Addr} {xs ys : List V} : Walk (RZ.ItzT K a b) (min xs.length ys.length) (fun H => SqT K H a xs ∧ SqT K H b ys) (YPair (fun i => xs[i]?) (fun i => ys[i]?)) where
  goes := fun i H hi g => ⟨xs, ys, xs[i]'(by omega), ys[i]'(by omega), g.1, g.2, List.getElem?_eq_getElem _, List.getElem?_eq_getElem _⟩
  stops := fun H g => ⟨xs, ys, g.1, g.2, by omega⟩
  yields := fun i H v H' _ g y => by
    obtain ⟨T, p, q, e1, e2, e3, e4, e5⟩ := y
    exact ⟨T, p, q, e1, e2, e3, e4 xs g.1, e5 ys g.2⟩
section
variable {X : Cx} {E : Wish} {pos : Pos}
theorem pi_zipM {e e2 : Expr} {ta : TA} {p tpos : Pos} {elts : List Expr} {kk : Nat} (hg : Gl X "zip") (hm : X.mg "zip" = none) (ha : PA X [e, e2] ta)
    (hs : starEach [e, e2] X.env = (false, eval e X.env) :: starEach [e2] X.env := by rfl) (hpl : (backTo pos (starEach [e2] X.env)).any (·.1) = false := by rfl) :
    PI X (.Tuple elts kk tpos) (.Call (.Name "zip" p) [e, e2] [] pos) (fun σ H Rk => ta σ H fun vs H1 => ∃ a b, vs = [V.ref a, V.ref b] ∧ (∃ xs, SqL X.K H1 a xs) ∧ (∃ ys, SqT X.K H1 b ys) ∧ Rk (ItzM X.K a b) H1) := by
  refine ⟨fun pins s σ H Rk I hh => Call_ (ld_blt I hg hm PyProof.Rows.boot_zip (PyProof.Rows.callWith_type1 (thn (ha.run pos pins s σ H _ I hh) fun us s1 ⟨vs, H1, I1, rv, a, b, ev, ⟨xs, hx⟩, ⟨ys, hy⟩, k⟩ => ?_) hs hpl))⟩
  subst ev
  have eu : us = [Value.ref a, Value.ref b] := by
    cases rv with
    | cons r1 r2 =>
      cases r2 with
      | cons r3 r4 => cases r4; rw [show _ = Value.ref a from r1, show _ = Value.ref b from r3]
  subst eu
  obtain ⟨its, _, pl, _⟩ := I1.list hx
  obtain ⟨jts, _, pT, _⟩ := I1.tuple hy
  have isT : s1.heap.IsTuple b jts.toArray := pT
  have la : a < s1.heap.objs.size := pl.lt
  have lb : b < s1.heap.objs.size := pT.lt
  refine zip_begins2 (begins_list a its.toArray) (begins_tuple b jts.toArray) pl.isList isT fun h' z1 z2 z3 z4 z5 z6 z7 => wpAny_pyIter_zip z1 ?_
  refine ⟨_, [s1.heap.objs.size + 4, s1.heap.objs.size + 2, s1.heap.objs.size + 3, s1.heap.objs.size, s1.heap.objs.size + 1], _, _, H1, rfl, I1.kept (t' := s1.toks) z7,
    turn_zipM a b _ _ _ s1.heap.objs.size (s1.heap.objs.size + 1) (zip_sep2 (fun c hc => by rw [List.mem_singleton.mp hc]; exact la) (fun c hc => by rw [List.mem_singleton.mp hc]; exact lb)) (Nat.ne_of_lt la) (Nat.ne_of_lt (Nat.lt_succ_of_lt lb)),
    ⟨z1, z2, ⟨_, _, z3⟩, ⟨_, z4, rfl, rfl⟩, ⟨_, z5, rfl, rfl⟩⟩, fun c hc => ?_, k⟩
  have le : s1.heap.objs.size ≤ c := by
    simp only [List.mem_cons, List.mem_nil_iff, or_false] at hc
    rcases hc with rfl | rfl | rfl | rfl | rfl
    · exact Nat.le_add_right _ _
    · exact Nat.le_add_right _ _
    · exact Nat.le_add_right _ _
    · exact Nat.le_refl _
    · exact Nat.le_add_right _ _
  exact I1.fpOk le (I1.hok.fresh le)
def zipL (ds es : List PyData) : List PyData := List.zipWith (fun a b => PyData.tuple [a, b]) ds es
theorem itd_zip {K : PySem.W.Frag} {O : List Addr} {H : Hp} {J : It} {xs ys : List V} {ds es : List PyData} {G : Hp → Prop} (hd : DpAll K (cut O H) xs ds) (he : DpAll K (cut O H) ys es) (hG : ∀ O' H', Same (cut O H) (cut O' H') → G H') (wk : Walk J (min xs.length ys.length) G (YPair (fun i => xs[i]?) (fun i => ys[i]?))) : ItD K O H J (zipL ds es) := by
  refine ⟨G, _, by unfold zipL; rw [List.length_zipWith, ← DpAll.length hd, ← DpAll.length he]; exact wk, hG, fun O' i H0 x H' d l s y e => ?_⟩
  obtain ⟨T, p, q, hx, hn, hH, hp, hq⟩ := y
  obtain ⟨d1, e1, h1⟩ := DpAll.getV hd hp
  obtain ⟨d2, e2, h2⟩ := DpAll.getV he hq
  unfold zipL at e
  rw [List.getElem?_zipWith, e1, e2] at e
  cases e
  exact pair_step l hn hx hH (Dp.mono s _ _ h1) (Dp.mono s _ _ h2)
def zmM (f : Mo (List Arg)) : Mo (List PyData) := bindM f fun as => liftO (match vals as with
  | some [.da (.list ds), .da (.tuple es)] => some (zipL ds es)
  | _ => none)
def ztM (f : Mo (List Arg)) : Mo (List PyData) := bindM f fun as => liftO (match vals as with
  | some [.da (.tuple ds), .da (.tuple es)] => some (zipL ds es)
  | _ => none)
theorem pdi_zipM {e e2 : Expr} {p tpos : Pos} {elts : List Expr} {kk : Nat} {f : Mo (List Arg)} (hg : Gl X "zip") (hm : X.mg "zip" = none) (h : PDA X E [e, e2] f)
    (hs : starEach [e, e2] X.env = (false, eval e X.env) :: starEach [e2] X.env := by rfl) (hpl : (backTo pos (starEach [e2] X.env)).any (·.1) = false := by rfl) : PDI X E (.Tuple elts kk tpos) (.Call (.Name "zip" p) [e, e2] [] pos) (zmM f) := by
  obtain ⟨t, h1, h2⟩ := h
  refine ⟨_, pi_zipM hg hm h1 hs hpl, fun T O M env σ H Rk o hK rr ee p => ?_⟩
  refine h2.bind (Q := fun vs H1 => ∃ a b, vs = [V.ref a, V.ref b] ∧ (∃ xs, SqL X.K H1 a xs) ∧ (∃ ys, SqT X.K H1 b ys) ∧ Rk (ItzM X.K a b) H1) hK rr ee p.exc fun y e2 us H2 ek r2 f2 p2 => ?_
  obtain ⟨c, ec, rfl⟩ := lift_split ek
  split at ec
  · rename_i ds es hv
    cases ec
    obtain ⟨v, w, rfl, rv, rw_⟩ := paired2 (vals_rep p2 hv)
    obtain ⟨a, xs, rfl, h3, h4⟩ := Dp.isList rv
    obtain ⟨b, ys, rfl, h5, h6⟩ := Dp.isTup rw_
    rw [hK.eq] at h3 h4 h5 h6
    exact ⟨a, b, rfl, ⟨xs, cut_le.seq h3⟩, ⟨ys, Same.seqT cut_le h5⟩, p _ H2 r2 f2 (by rw [hK.eq]; exact itd_zip h4 h6 (fun O' H' s => ⟨cut_le.seq (s.seq h3), Same.seqT cut_le (Same.seqT s h5)⟩) walk_zipM)⟩
  · cases ec
theorem pdi_zipT {e e2 : Expr} {p tpos : Pos} {elts : List Expr} {kk : Nat} {f : Mo (List Arg)} (hg : Gl X "zip") (hm : X.mg "zip" = none) (h : PDA X E [e, e2] f)
    (hs : starEach [e, e2] X.env = (false, eval e X.env) :: starEach [e2] X.env := by rfl) (hpl : (backTo pos (starEach [e2] X.env)).any (·.1) = false := by rfl) : PDI X E (.Tuple elts kk tpos) (.Call (.Name "zip" p) [e, e2] [] pos) (ztM f) := by
  obtain ⟨t, h1, h2⟩ := h
  refine ⟨_, RZ.pi_zipA hg hm h1 hs hpl, fun T O M env σ H Rk o hK rr ee p => ?_⟩
  refine h2.bind (Q := fun vs H1 => ∃ a b xs ys, vs = [.ref a, .ref b] ∧ ((SqL X.K H1 a xs ∧ SqL X.K H1 b ys ∧ Rk (Itz X.K a b) H1) ∨ (SqT X.K H1 a xs ∧ SqT X.K H1 b ys ∧ Rk (RZ.ItzT X.K a b) H1))) hK rr ee p.exc fun y e2 us H2 ek r2 f2 p2 => ?_
  obtain ⟨c, ec, rfl⟩ := lift_split ek
  split at ec
  · rename_i ds es hv
    cases ec
    obtain ⟨v, w, rfl, rv, rw_⟩ := paired2 (vals_rep p2 hv)
    obtain ⟨a, xs, rfl, h3, h4⟩ := Dp.isTup rv
    obtain ⟨b, ys, rfl, h5, h6⟩ := Dp.isTup rw_
    rw [hK.eq] at h3 h4 h5 h6
    exact ⟨a, b, xs, ys, rfl, .inr ⟨Same.seqT cut_le h3, Same.seqT cut_le h5, p _ H2 r2 f2 (by rw [hK.eq]; exact itd_zip h4 h6 (fun O' H' s => ⟨Same.seqT cut_le (Same.seqT s h3), Same.seqT cut_le (Same.seqT s h5)⟩) walk_zipTT)⟩⟩
  · cases ec
end
end Pd
end
section
set_option Elab.async false
set_option linter.all false
set_option maxRecDepth 100000
set_option maxHeartbeats 4000000
namespace Pd
open PySem PySem.Spec PyProof.Rows L2
section
variable {X : Cx} {E : Wish} {pos : Pos} {np : Nat}
/-! ### a star in a display -/
def starM (f : Mo SV) (g : Mo (List Arg)) : Mo (List Arg) := bindM f fun x => bindM (liftO (seqOf x)) fun ds => bindM g fun xs => retM (ds.map (fun d => Arg.v (.da d)) ++ xs)
theorem paired_app {α β : Type} {F : α → β → Prop} : ∀ {a c : List α} {b d : List β}, Paired F a b → Paired F c d → Paired F (a ++ c) (b ++ d)
  | _, _, _, _, .nil, s => s
  | _, _, _, _, .cons r t, s => .cons r (paired_app t s)
theorem star_rep {K : PySem.W.Frag} {O M : List Addr} {env : PEnv} {σ : L2.St} {H : Hp} : ∀ {vs : List V} {ds : List PyData}, DpAll K (cut O H) vs ds → Paired (RepA K O M env σ H) vs (ds.map fun d => Arg.v (.da d))
  | _, _, .nil => .nil
  | _, _, .cons r t => .cons r (star_rep t)
theorem pda_star {e : Expr} {p : Pos} {es : List Expr} {f : Mo SV} {g : Mo (List Arg)} (h : PDE X E e f) (hr : PDA X E es g) (hs : starEach (.Starred e p :: es) X.env = (true, eval e X.env) :: starEach es X.env := by rfl) : PDA X E (.Starred e p :: es) (starM f g) := by
  obtain ⟨t, h1, h2⟩ := h
  obtain ⟨u, u1, u2⟩ := hr
  refine ⟨_, StX.pa_star h1 u1 hs, fun T O M env σ H Q o hK rr ee p => ?_⟩
  refine h2.bind (Q := fun x H1 => ∃ p xs, x = V.ref p ∧ (SqT X.K H1 p xs ∨ SqL X.K H1 p xs) ∧ u σ H1 fun ys H2 => Q (xs ++ ys) H2) hK rr ee p.exc fun x e1 v H1 ek r1 f1 p1 => ?_
  rcases bind_split ek with ⟨C, fs, h3, _⟩ | ⟨ds, e1', h3, ek⟩
  · obtain ⟨_, _, z⟩ := lift_split h3; cases z
  obtain ⟨_, q, z⟩ := lift_split h3
  cases z
  have main : ∀ (xs : List V), DpAll T.K (cut O H1) xs ds → u σ H1 fun ys H2 => Q (xs ++ ys) H2 := fun xs hd => by
    refine u2.bind (Q := fun ys H2 => Q (xs ++ ys) H2) hK r1 ek (p.shift f1).exc fun y e2 us H2 ek2 r2 f2 p2 => ?_
    cases ek2
    exact p _ H2 r2 (f1.trans f2) (paired_app (star_rep (DpAll.mono (f2.cut r2.sub) _ _ hd)) p2)
  unfold seqOf at q
  split at q
  · cases q
    obtain ⟨a, xs, rfl, h3, h4⟩ := Dp.isList p1
    exact ⟨a, xs, rfl, .inr (by rw [← hK.eq]; exact cut_le.seq h3), main xs h4⟩
  · cases q
    obtain ⟨a, xs, rfl, h3, h4⟩ := Dp.isTup p1
    exact ⟨a, xs, rfl, .inl (by rw [← hK.eq]; exact Same.seqT cut_le h3), main xs h4⟩
  · cases q
/-! ### -n -/
def negM (f : Mo SV) : Mo SV := bindM f fun x => liftO ((asI x).map fun i => .da (.int (-i)))
theorem pd_neg {e : Expr} {f : Mo SV} (h : PDE X E e f) : PDE X E (.UnaryOp .USub e pos) (negM f) := by
  obtain ⟨t, h1, h2⟩ := h
  refine ⟨_, pe_un un_neg h1, fun T O M env σ H Q o hK rr ee p => ?_⟩
  refine h2.bind (Q := fun x H1 => rU (fun i => .int (-i)) x H1 Q) hK rr ee p.exc fun x e1 v H1 ek r1 f1 p1 => ?_
  obtain ⟨c, ec, rfl⟩ := lift_split ek
  cases q : asI x with
  | none => rw [q] at ec; cases ec
  | some i =>
    rw [q] at ec; cases ec
    have := asI_some q
    subst this
    exact ⟨i, Dp.isInt p1, p _ H1 r1 f1 (.int _)⟩
/-! ### a, b, c = e1, e2, e3 -/
def parS3 (i j l : Nat) (f : Mo (List Arg)) : MoS := withE f fun as => match as with
  | [.v x, .v y, .v z] => withE (setM i x) fun _ => withE (setM j y) fun _ => withE (setM l z) fun _ => nxS
  | _ => fun _ => none
theorem paired3 {α β : Type} {F : α → β → Prop} {xs : List α} {b c d : β} (h : Paired F xs [b, c, d]) : ∃ p q r, xs = [p, q, r] ∧ F p b ∧ F q c ∧ F r d := by
  cases h with
  | cons r t =>
    obtain ⟨q, s, rfl, r2, r3⟩ := paired2 t
    exact ⟨_, q, s, rfl, r, r2, r3⟩
theorem pds_par3 {i j l : Nat} {st : Stmt} {es : List Expr} {f : Mo (List Arg)} (hab : PDA X E es f) (mk : ∀ t, PA X es t → PS X st (tPar3 i j l t)) : PDS X np E st (parS3 i j l f) := by
  obtain ⟨t, h1, h2⟩ := hab
  refine ⟨_, mk t h1, fun T O M env σ H D o hK hP r e p => ?_⟩
  rcases withE_split e with ⟨C, fs, h1, rfl⟩ | ⟨as, e1, h1, h3⟩
  · exact h2 T O M env σ H _ (.exc C fs) hK r h1 p
  · refine h2 T O M env σ H _ (.ok as e1) hK r h1 fun vs H' r' f' rp => ?_
    split at h3
    · rename_i x y z
      obtain ⟨u, v, w, rfl, ru, rv, rw_⟩ := paired3 rp
      rcases withE_split h3 with ⟨C, fs, q, _⟩ | ⟨_, e2, q1, q2⟩
      · exact absurd q (setM_no _ _ _ _ _)
      rcases withE_split q2 with ⟨C, fs, q, _⟩ | ⟨_, e3, q3, q4⟩
      · exact absurd q (setM_no _ _ _ _ _)
      rcases withE_split q4 with ⟨C, fs, q, _⟩ | ⟨_, e4, q5, q6⟩
      · exact absurd q (setM_no _ _ _ _ _)
      cases q6
      obtain ⟨w1, _, w3⟩ := setM_some q1
      cases w3
      obtain ⟨u1, _, u3⟩ := setM_some q3
      cases u3
      obtain ⟨x1, _, x3⟩ := setM_some q5
      cases x3
      exact ⟨u, v, w, rfl, p O M _ H' (((r'.setv (v := u) w1 ru).setv (v := v) u1 rv).setv (v := w) x1 rw_) (f'.cut r.sub)⟩
    · cases h3
end
end Pd
end
section
set_option Elab.async false
set_option linter.all false
set_option maxRecDepth 100000
set_option maxHeartbeats 4000000
namespace Pd
open PySem PySem.Spec PyProof.Rows L2
theorem bt_len : bootBuiltins "len" = some (.builtin "len") := PySem.boot_len
theorem bt_sum : bootBuiltins "sum" = some (.builtin "sum") := by decide +kernel
theorem bt_all : bootBuiltins "all" = some (.builtin "all") := by decide +kernel
theorem bt_min : bootBuiltins "min" = some (.builtin "min") := by decide +kernel
theorem bt_max : bootBuiltins "max" = some (.builtin "max") := by decide +kernel
theorem bt_sorted : bootBuiltins "sorted" = some (.builtin "sorted") := by decide +kernel
theorem bt_int : bootBuiltins "int" = some (.type "int") := by decide +kernel
theorem bt_bool : bootBuiltins "bool" = some (.type "bool") := by decide +kernel
theorem bt_str : bootBuiltins "str" = some (.type "str") := by decide +kernel
theorem bt_list : bootBuiltins "list" = some (.type "list") := by decide +kernel
theorem bt_tuple : bootBuiltins "tuple" = some (.type "tuple") := by decide +kernel
theorem hu65 {k : Nat} {A : Around} (r : Room k A) : A.units + 65 < cLine := by have := r.un; omega
section
variable {X : Cx} {E : Wish} {pos : Pos} {np : Nat}
/-- a constant of the module -/
theorem pd_glob {x : Str} {i : Int} {t : Tok} (hg : Gl X x) (hm : X.mg x = some (.int i t)) (hd : (x == ("__debug__" : Str)) = false := by decide) : PDE X E (.Name x pos) (retM (.da (.int i))) := pd_const (pe_glob (v := .int i) hg hm ⟨t, rfl⟩ hd) fun _ => .int i
/-! ### isinstance -/
/-- what is known of a class for isinstance -/
structure ClsK (K : PySem.W.Frag) (C : Addr) : Prop where
  cl : Cls K C
  ha : PySem.W.findIn K (.ref C) "__class__" = some (some (.builtin "object.__class__"))
  hn : PySem.W.specialIn K (.builtin "object.__class__") "__get__" = some (some (.builtin "getset_descriptor.__get__"))
  htk : PySem.W.takesIn K (.builtin "object.__class__") = some true
  hm : PySem.W.mroIn K C (.type "object") = some true
theorem kit_same {K : PySem.W.Frag} {C : Addr} : PySem.W.kitOne K (.ref C) (.ref C) = some true := by
  unfold PySem.W.kitOne
  rw [if_pos (by simp)]
def isiCM (C : Addr) (f : Mo SV) : Mo SV := bindM f fun x => match x with
  | .obj C' _ => if C' = C then retM (.da (.bool true)) else fun _ => none
  | _ => fun _ => none
theorem pd_isiC {C : Addr} {x : Str} {e : Expr} {p p2 : Pos} {f : Mo SV} (hg : Gl X "isinstance") (hm : X.mg "isinstance" = none) (h : PDE X E e f) (hgx : Gl X x) (hmx : X.mg x = some (.ref C)) (hC : ClsK X.K C)
    (hd : (x == ("__debug__" : Str)) = false := by decide) (he : starEach [e, .Name x p2] X.env = (false, eval e X.env) :: starEach [.Name x p2] X.env := by rfl) (hpl : (backTo pos (starEach [.Name x p2] X.env)).any (·.1) = false := by rfl) :
    PDE X E (.Call (.Name "isinstance" p) [e, .Name x p2] [] pos) (isiCM C f) := by
  obtain ⟨t, q1, q2⟩ := h
  refine ⟨_, pe_callB call_isi hg hm PyProof.Rows.boot_isinstance (pa_cons q1 (pa_cons (pe_glob (v := .ref C) hgx hmx rfl hd) pa_nil) he) (by decide) (by decide) he hpl, fun T' O M env σ H Q o hK rr ee p => ?_⟩
  refine q2.bind (Q := fun x H1 => rIsi X.K [x, .ref C] H1 Q) hK rr ee p.exc fun x e2 v H2 ek r2 f2 p2 => ?_
  split at ek
  · rename_i C' fs
    split at ek
    · rename_i e; subst e
      cases ek
      obtain ⟨a, dx, gs, rfl, h2, h3⟩ := p2
      exact ⟨.ref a, .ref _, .ref _, .ref _, true, rfl, .own _, .base (.ins (cut_le _ _ h2) hC.cl hC.ha hC.hn hC.htk hC.hm), kit_same, p _ H2 r2 f2 (.bl true)⟩
    · cases ek
  · cases ek
def isi2M (T1 T2 : String) (f : Mo SV) : Mo SV := bindM f fun x => liftO (match x with
  | .da d => (kitB (tyOfD d) T1).bind fun b => (kitB (tyOfD d) T2).map fun c => .da (.bool (b || c))
  | _ => none)
theorem pd_isi2 {T1 T2 : String} {e c1 c2 : Expr} {p p2 : Pos} {k2} {f : Mo SV} (hg : Gl X "isinstance") (hm : X.mg "isinstance" = none) (h : PDE X E e f) (h1 : PE X c1 (tC (.ty T1))) (h2 : PE X c2 (tC (.ty T2)))
    (he : starEach [e, .Tuple [c1, c2] k2 p2] X.env = (false, eval e X.env) :: starEach [.Tuple [c1, c2] k2 p2] X.env := by rfl) (hpl : (backTo pos (starEach [.Tuple [c1, c2] k2 p2] X.env)).any (·.1) = false := by rfl)
    (he2 : starEach [.Tuple [c1, c2] k2 p2] X.env = (false, eval (.Tuple [c1, c2] k2 p2) X.env) :: starEach [] X.env := by rfl) (he3 : starEach [c1, c2] X.env = (false, eval c1 X.env) :: starEach [c2] X.env := by rfl) (he4 : starEach [c2] X.env = (false, eval c2 X.env) :: starEach [] X.env := by rfl) :
    PDE X E (.Call (.Name "isinstance" p) [e, .Tuple [c1, c2] k2 p2] [] pos) (isi2M T1 T2 f) := by
  obtain ⟨t, q1, q2⟩ := h
  refine ⟨_, pe_callB call_isiT hg hm PyProof.Rows.boot_isinstance (pa_cons q1 (pa_cons (pe_tup (pa_cons h1 (pa_cons h2 pa_nil he4) he3)) pa_nil he2) he) (by decide) (by decide) he hpl, fun T' O M env σ H Q o hK rr ee p => ?_⟩
  refine q2.bind (Q := fun x H1 => tTup (tCons (tC (.ty T1)) (tCons (tC (.ty T2)) tNil)) σ H1 fun y H2 => tNil σ H2 fun ys H3 => rIsiT X.K (x :: y :: ys) H3 Q) hK rr ee p.exc fun x e2 v H2 ek r2 f2 p2 => ?_
  obtain ⟨c, ec, rfl⟩ := lift_split ek
  split at ec
  · rename_i d
    cases q : kitB (tyOfD d) T1 with
    | none => rw [q] at ec; cases ec
    | some b =>
      cases q' : kitB (tyOfD d) T2 with
      | none => rw [q, q'] at ec; cases ec
      | some b' =>
        rw [q, q'] at ec
        cases ec
        refine ⟨le1000 (by simp), fun tp htp => ?_⟩
        refine ⟨v, tp, [.ty T1, .ty T2], .type (tyOfD d), [.type T1, .type T2], b || b', rfl, upd_same, .cons (.ty T1) (.cons (.ty T2) .nil), ?_, ?_, ?_⟩
        · rw [← hK.eq]; exact tyx_of (Dp.mono (cut_le.trans (same_upd htp)) _ _ p2)
        · refine kitAny_cons (kit_ty q) (r := b || b') (fun e => ?_) fun e => by rw [e]; rfl
          refine kitAny_cons (kit_ty q') (fun e' => ?_) fun e' => by rw [e']; simp
          rw [e, e']; exact kitAny_nil
        · exact p _ _ (r2.same (same_upd htp)) (f2.trans (Fr.of (same_upd htp))) (.bl _)
  · cases ec
/-! ### range with a step -/
def rangeS (lo c : Int) (n : Nat) : List PyData := (List.range n).map fun i : Nat => PyData.int (lo + i * c)
def rangeD3 : List SV → Option (List PyData)
  | [.da (.int i), .da (.int j), .da (.int c)] => if (-1000000 ≤ i ∧ i ≤ 1000000) ∧ (-1000000 ≤ j ∧ j ≤ 1000000) ∧ 0 < c ∧ c ≤ 1000 then some (rangeS i c ((j - i + c - 1) / c).toNat) else none
  | _ => none
def rg3M (f : Mo (List Arg)) : Mo (List PyData) := bindM f fun as => liftO ((vals as).bind rangeD3)
end
theorem rgc_of {i j c : Int} (hi : -1000000 ≤ i ∧ i ≤ 1000000) (hj : -1000000 ≤ j ∧ j ≤ 1000000) (hc : 0 < c) (hc2 : c ≤ 1000) : RgC i j c ((j - i + c - 1) / c).toNat := by
  have e : Builtin.Range.rangeSize i j c = (((j - i + c - 1) / c).toNat : Nat) := by
    unfold Builtin.Range.rangeSize
    rw [if_pos hc]
    split
    · rename_i h
      have : j - i + c - 1 = (j - i - 1) + 1 * c := by omega
      rw [this, Int.add_mul_ediv_right _ _ (by omega)]
      have : 0 ≤ (j - i - 1) / c := Int.ediv_nonneg (by omega) (by omega)
      omega
    · rename_i h
      have : (j - i + c - 1) / c ≤ 0 := by
        have : (j - i + c - 1) / c < 1 := Int.ediv_lt_of_lt_mul hc (by omega)
        omega
      omega
  refine ⟨by omega, by omega, ?_, e⟩
  unfold Builtin.Range.small
  rw [e]
  have le : (j - i + c - 1) / c ≤ 2100000 := by
    refine Int.ediv_le_of_le_mul hc ?_
    have : 2100000 * 1 ≤ 2100000 * c := Int.mul_le_mul_of_nonneg_left (by omega) (by omega)
    omega
  generalize (j - i + c - 1) / c = q at le ⊢
  simp only [Builtin.Range.rangeFitsLong, show c > 0 from hc, if_true, Bool.and_eq_true, Bool.or_eq_true, decide_eq_true_eq, beq_iff_eq]
  omega
theorem itd_rangeC {K : PySem.W.Frag} {O : List Addr} {H : Hp} {lo c : Int} {n : Nat} : ItD K O H (Itc lo c n) (rangeS lo c n) := by
  have hl : (rangeS lo c n).length = n := by unfold rangeS; rw [List.length_map, List.length_range]
  refine ⟨fun _ => True, YFn fun i => .int (lo + (i : Nat) * c), by rw [hl]; exact walk_rangeC, fun _ _ _ => True.intro, fun O' i H0 x H' d l s y e => ?_⟩
  obtain ⟨rfl, rfl⟩ := y
  refine ⟨Same.refl _, ?_⟩
  have hi := (List.getElem?_eq_some_iff.mp e).1
  rw [hl] at hi
  unfold rangeS at e
  rw [List.getElem?_map, List.getElem?_range hi] at e
  cases e
  exact .int _
section
variable {X : Cx} {E : Wish} {pos : Pos} {np : Nat}
theorem pdi_range3 {tg a b c : Expr} {p : Pos} {f : Mo (List Arg)} (hg : Gl X "range") (hm : X.mg "range" = none) (ha : PDA X E [a, b, c] f) (hs : starEach [a, b, c] X.env = (false, eval a X.env) :: starEach [b, c] X.env := by rfl) (hpl : (backTo pos (starEach [b, c] X.env)).any (·.1) = false := by rfl) :
    PDI X E tg (.Call (.Name "range" p) [a, b, c] [] pos) (rg3M f) := by
  obtain ⟨t, h1, h2⟩ := ha
  refine ⟨_, pi_range3 hg hm h1 hs hpl, fun T O M env σ H Rk o hK rr ee p => ?_⟩
  refine h2.bind (Q := fun vs H1 => ∃ (i j c : Int) (n : Nat), vs = [.int i, .int j, .int c] ∧ RgC i j c n ∧ Rk (Itc i c n) H1) hK rr ee p.exc fun y e2 us H2 ek2 r2 f2 p2 => ?_
  obtain ⟨c, ec, rfl⟩ := lift_split ek2
  cases q : vals y with
  | none => rw [q] at ec; cases ec
  | some svs =>
    rw [q] at ec
    have hv := vals_rep p2 q
    replace ec : rangeD3 svs = some c := ec
    unfold rangeD3 at ec
    split at ec
    · rename_i i j st
      split at ec
      · rename_i hj
        cases ec
        obtain ⟨a, b, d, rfl, ra, rb, rd⟩ := paired3 hv
        exact ⟨i, j, st, _, by rw [Dp.isInt ra, Dp.isInt rb, Dp.isInt rd], rgc_of hj.1 hj.2.1 hj.2.2.1 hj.2.2.2, p _ H2 r2 f2 itd_rangeC⟩
      · cases ec
    · cases ec
/-! ### errors -/
def raiseS (C : Addr) (f : Mo (List (Str × PyData))) : MoS := withE f fun fs _ => some (.exc C fs)
/-- try: return what() / except CB: return (word, None) / except CS as error: return (word, error.index) -/
def toldM (CB CS : Addr) (word : PyData) (f : Mo SV) : Mo SV := fun env => match f env with
  | some (.ok d _) => some (.ok d env)
  | some (.exc C fs) => if C = CB then some (.ok (.da (.tuple [word, .none])) env) else if C = CS then (match fs.lookup ("index" : Str) with
    | some d => some (.ok (.da (.tuple [word, d])) env)
    | none => none) else none
  | none => none
/-! ### a new object -/
def makeM (C : Addr) (F : List SV → Option (List (Str × PyData))) (f : Mo (List Arg)) : Mo SV := bindM f fun as => liftO ((vals as).bind fun svs => (F svs).map fun fs => .obj C fs)
end
end Pd
end
section
set_option Elab.async false
set_option linter.all false
set_option maxRecDepth 100000
set_option maxHeartbeats 4000000
namespace Pd
open PySem PySem.Spec PyProof.Rows L2
/-! ### comprehensions of more clauses, level by level -/
abbrev Acc := List PyData → PEnv → Option (List PyData × PEnv)
def leafA (te : Mo SV) : Acc := fun acc env => if acc.length < LIM then (match te env with
  | some (.ok (.da y) e) => some (acc ++ [y], e)
  | _ => none) else none
def lvGo (vs : List Nat) (g : SV → Mo Unit) (inner : Acc) : List PyData → Acc
  | [], acc, env => some (acc, env)
  | d :: ds, acc, env => if vs.all (fun i => !isOD env i) = true then (match g (.da d) (wipeE env vs) with
    | some (.ok _ e1) => (inner acc e1).bind fun r => lvGo vs g inner ds r.1 (mergeE env r.2)
    | _ => none) else none
def lvA (vs : List Nat) (fi : Mo (List PyData)) (g : SV → Mo Unit) (inner : Acc) : Acc := fun acc env => match fi env with
  | some (.ok ds e) => lvGo vs g inner ds acc e
  | _ => none
def topA (a : Acc) : Mo SV := fun env => (a [] env).map fun r => .ok (.da (.list r.1)) r.2
def lc2M (vs vs1 : List Nat) (fi : Mo (List PyData)) (g : SV → Mo Unit) (fi1 : Mo (List PyData)) (g1 : SV → Mo Unit) (te : Mo SV) : Mo SV :=
  bindM fi fun ds => topA (lvGo vs g (lvA vs1 fi1 g1 (leafA te)) ds)
def lc3M (vs vs1 vs2 : List Nat) (fi : Mo (List PyData)) (g : SV → Mo Unit) (fi1 : Mo (List PyData)) (g1 : SV → Mo Unit) (fi2 : Mo (List PyData)) (g2 : SV → Mo Unit) (te : Mo SV) : Mo SV :=
  bindM fi fun ds => topA (lvGo vs g (lvA (vs1 ++ vs2) fi1 g1 (lvA vs2 fi2 g2 (leafA te))) ds)
theorem turns_it {J : It} {n : Nat} {G : Hp → Prop} {Y : Nat → Hp → V → Hp → Prop} (w : Walk J n G Y) {B : V → Hp → (Hp → Prop) → Prop} {H1 : Hp} {Qd : Hp → Prop} (Pv : Nat → Hp → Prop) (h0 : Pv 0 H1) (hG : ∀ i H, i ≤ n → Pv i H → G H)
    (hs : ∀ i x H H', i < n → Pv i H → Y i H x H' → B x H' (Pv (i + 1))) (hd : ∀ H, Pv n H → Qd H) :
    ∃ W : Nat → Nat → Hp → Prop, (∃ m, W 0 m H1) ∧ ∀ i m H, W i m H → (J.stop i H ∧ Qd H) ∨ (J.go i H ∧ ∃ Nx : Hp → Prop, (∀ H', Nx H' → ∃ m', m' < m ∧ W (i + 1) m' H') ∧ ∀ x H', J.yld i H x H' → B x H' Nx) := by
  refine ⟨fun k m H => m + k = n ∧ Pv k H, ⟨n, rfl, h0⟩, fun k m H ⟨e, p⟩ => ?_⟩
  have hk : k ≤ n := by omega
  cases m with
  | zero =>
    have e : k = n := by omega
    subst e
    exact .inl ⟨w.stops H (hG _ H hk p), hd H p⟩
  | succ m =>
    have hlt : k < n := by omega
    have q := hG k H hk p
    exact .inr ⟨w.goes k H hlt q, Pv (k + 1), fun H' p' => ⟨m, Nat.lt_succ_self m, by omega, p'⟩, fun x H' y => hs k x H H' hlt p (w.yields k H x H' hlt q y)⟩
section
variable {T : Ent} {O M : List Addr} {D : Addr}
def FrD (M : List Addr) (D : Addr) (H H' : Hp) : Prop := ∀ b o, H b = some o → b ∉ M → b ≠ D → H' b = some o
theorem FrD.of {M : List Addr} {H H' : Hp} (f : Fr M H H') : FrD M D H H' := fun b o h n _ => f b o h n
theorem FrD.trans {M : List Addr} {H H1 H2 : Hp} (a : FrD M D H H1) (b : FrD M D H1 H2) : FrD M D H H2 := fun c o h n n2 => b c o (a c o h n n2) n n2
theorem FrD.cut {H H' : Hp} (a : FrD M D H H') (s : ∀ l ∈ M, l ∈ O) : Same (Pd.cut (D :: O) H) (Pd.cut (D :: O) H') :=
  cut_same (fun b o h n => a b o h (fun z => n (List.mem_cons_of_mem _ (s b z))) fun z => n (by rw [z]; exact List.mem_cons_self)) fun _ _ _ z => z
/-- how the accumulator stands at D -/
structure AccOk (O : List Addr) (D : Addr) (AR : Hp → List PyData → Prop) : Prop where
  obj : ∀ H acc, AR H acc → ∃ o, H D = some o ∧ (∀ ps, o ≠ .tbl ps) ∧ ∀ φ, o ≠ .ext φ
  mono : ∀ H H' acc, AR H acc → H' D = H D → Same (Pd.cut (D :: O) H) (Pd.cut (D :: O) H') → AR H' acc
/-- what a level owes: from an accumulator to an accumulator -/
def LvOk (AR : Hp → List PyData → Prop) (T : Ent) (O M : List Addr) (D : Addr) (inner : Acc) (B : L2.St → Hp → (Hp → Prop) → Prop) : Prop := ∀ (e2 e3 : PEnv) (σ2 : L2.St) (H3 : Hp) (acc acc' : List PyData) (Nx : Hp → Prop), inner acc e2 = some (acc', e3) → R T (D :: O) M e2 σ2 H3 →
  AR H3 acc → (∀ H', R T (D :: O) M e3 σ2 H' → AR H' acc' → FrD M D H3 H' → Nx H') → B σ2 H3 Nx
structure At (T : Ent) (O M : List Addr) (D : Addr) : Prop where
  m : D ∉ M
  t : ∀ x, T.H D = some x → D ∈ T.par.map (·.2)
theorem R.mergeD {AR : Hp → List PyData → Prop} {env new : PEnv} {vs : List Nat} {σ σ2 : L2.St} {H H' : Hp} {acc acc' : List PyData} (A : At T O M D) (AO : AccOk O D AR) (r : R T (D :: O) M env σ H) (hl : AR H acc) (r2 : R T (D :: O) M new σ2 H') (hD : AR H' acc') (f : FrD M D H H') (hv : vs.all (fun i => !isOD env i) = true) (hw : L2.wipe σ2 vs = L2.wipe σ vs) : R T (D :: O) M (mergeE env new) σ H' := by
  obtain ⟨o, e1, e2, e3⟩ := AO.obj _ _ hl
  obtain ⟨o', e4, _⟩ := AO.obj _ _ hD
  have r0 := r.putO2 (o := o') List.mem_cons_self A.m A.t ⟨fun ps z => e2 ps (by rw [e1] at z; exact Option.some.inj z), fun φ z => e3 φ (by rw [e1] at z; exact Option.some.inj z)⟩
  refine r0.merge r2 (fun b o h n => ?_) hv hw
  by_cases e : b = D
  · subst e; rw [upd_same] at h; cases h; exact e4
  · rw [upd_ne e] at h; exact f b o h n e
/-- a list -/
def ARl (K : PySem.W.Frag) (O : List Addr) (D : Addr) : Hp → List PyData → Prop := fun H acc => ∃ accV, H D = some (.lst accV) ∧ DpAll K (Pd.cut (D :: O) H) accV acc
theorem arl_ok {K : PySem.W.Frag} : AccOk O D (ARl K O D) := ⟨fun H acc ⟨accV, h, _⟩ => ⟨_, h, (fun _ z => nomatch z), (fun _ z => nomatch z)⟩, fun H H' acc ⟨accV, h, ha⟩ e s => ⟨accV, e.trans h, DpAll.mono s _ _ ha⟩⟩
theorem leaf_ok {K : PySem.W.Frag} {E : Wish} {te : Mo SV} (hK : KT T K E) (A : At T O M D) : LvOk (ARl T.K O D) T O M D (leafA te) fun σ2 H3 Nx => tOf K E.no te σ2 H3 fun y H7 => ∃ acc, H7 D = some (.lst acc) ∧ acc.length < sizeLine ∧ Nx (upd H7 D (.lst (acc ++ [y]))) := by
  intro e2 e3 σ2 H3 acc acc' Nx h r ⟨accV, hD, ha⟩ fin
  unfold leafA at h
  split at h
  · rename_i hlt
    split at h
    · rename_i y e q
      cases h
      refine ⟨T, D :: O, M, e2, .ok (.da y) e3, hK.no, r, q, fun v H5 r5 f5 rp => ?_⟩
      have hD5 : H5 D = some (.lst accV) := f5 _ _ hD A.m
      refine ⟨accV, hD5, by rw [DpAll.length ha]; exact Nat.lt_of_lt_of_le hlt (lim_le (Nat.le_refl _)), ?_⟩
      have ec : Same (Pd.cut (D :: O) H5) (Pd.cut (D :: O) (upd H5 D (.lst (accV ++ [v])))) := cut_same (fun c o e n => by rw [upd_ne (fun z => n (by rw [z]; exact List.mem_cons_self))]; exact e) fun _ _ _ z => z
      refine fin _ (r5.putO List.mem_cons_self A.m A.t ⟨accV, hD5⟩) ⟨_, upd_same, ?_⟩ fun b o h n n2 => ?_
      · exact DpAll.append (DpAll.mono ec _ _ (DpAll.mono (f5.cut r.sub) _ _ ha)) (.cons (Dp.mono ec _ _ rp) .nil)
      · rw [upd_ne n2]; exact f5 b o h n
    · cases h
  · cases h
theorem lv_it {AR : Hp → List PyData → Prop} {K : PySem.W.Frag} {E : Wish} {inner : Acc} {B : L2.St → Hp → (Hp → Prop) → Prop} {vs is : List Nat} {g : SV → Mo Unit} (hK : KT T K E) (A : At T O M D) (AO : AccOk O D AR) (hsub : ∀ i ∈ is, i ∈ vs) (hB : LvOk AR T O M D inner B) {J : It} {ds : List PyData} {H1 : Hp} (it : ItD T.K (D :: O) H1 J ds)
    {env envE : PEnv} {σ : L2.St} {acc acc' : List PyData} {Qd : Hp → Prop} (h : lvGo vs g inner ds acc env = some (acc', envE)) (r : R T (D :: O) M env σ H1) (hM : ∀ l ∈ M, l ∈ O) (ha : AR H1 acc)
    (fin : ∀ H', R T (D :: O) M envE σ H' → AR H' acc' → FrD M D H1 H' → Qd H') :
    ∃ W : Nat → Nat → Hp → Prop, (∃ m, W 0 m H1) ∧ ∀ i m H, W i m H → (J.stop i H ∧ Qd H) ∨ (J.go i H ∧ ∃ Nx : Hp → Prop, (∀ H', Nx H' → ∃ m', m' < m ∧ W (i + 1) m' H') ∧
      ∀ x H', J.yld i H x H' → tgOf K is g x (L2.wipe σ vs) H' fun σ2 H2 => L2.wipe σ2 vs = L2.wipe σ vs ∧ B σ2 H2 Nx) := by
  obtain ⟨G, Y, wk, hG, hY⟩ := it.ex
  refine turns_it wk (fun i H2 => ∃ env2 acc2, lvGo vs g inner (ds.drop i) acc2 env2 = some (acc', envE) ∧ R T (D :: O) M env2 σ H2 ∧ AR H2 acc2 ∧ FrD M D H1 H2)
    ⟨env, acc, h, r, ha, FrD.of Fr.refl⟩ (fun i H2 _ ⟨_, _, _, _, _, f⟩ => hG _ _ (f.cut hM)) (fun i x H2 H3 hlt hP hy => ?_) fun H2 hP => ?_
  · obtain ⟨env2, acc2, hgo, r2, ha2, f2⟩ := hP
    have hd : ds[i]? = some ds[i] := List.getElem?_eq_getElem hlt
    rw [List.drop_eq_getElem_cons hlt] at hgo
    unfold lvGo at hgo
    split at hgo
    · rename_i hv
      split at hgo
      · rename_i e1 q1
        obtain ⟨s23, hx⟩ := hY (D :: O) i H2 x H3 ds[i] r2.live (f2.cut hM) hy hd
        have r3 := r2.same s23
        obtain ⟨o2, hD2, _⟩ := AO.obj _ _ ha2
        cases qi : inner acc2 e1 with
        | none => rw [qi] at hgo; cases hgo
        | some p =>
          obtain ⟨acc3, e3⟩ := p
          rw [qi] at hgo
          refine ⟨T, D :: O, M, wipeE env2 vs, e1, .da ds[i], hK.eq, r3.wipe hv, by rw [← hK.eq]; exact hx, q1, fun σ' r' ch => ?_⟩
          have hw : L2.wipe σ' vs = L2.wipe σ vs := (wipe_chg ch hsub).trans wipe_idem
          refine ⟨hw, hB e1 e3 σ' H3 acc2 acc3 _ qi r' (AO.mono _ _ _ ha2 ((s23 _ _ hD2).trans hD2.symm) (Fr.cut (M := M) (Fr.of s23) r2.sub)) fun H' r4 ha4 f4 => ?_⟩
          have fr : FrD M D H2 H' := (FrD.of (Fr.of s23)).trans f4
          exact ⟨_, acc3, hgo, r2.mergeD A AO ha2 r4 ha4 fr hv hw, ha4, f2.trans fr⟩
      · cases hgo
    · cases hgo
  · obtain ⟨env2, acc2, hgo, r2, ha2, f2⟩ := hP
    rw [List.drop_length] at hgo
    cases hgo
    exact fin H2 r2 ha2 f2
def tiOf (K : PySem.W.Frag) (E : Wish) (f : Mo (List PyData)) : TI := fun σ H Rk => ∃ T O M env o, KT T K E ∧ R T O M env σ H ∧ f env = some o ∧ PostI T E O M σ H Rk o
theorem lv_ok {AR : Hp → List PyData → Prop} {K : PySem.W.Frag} {E : Wish} {inner : Acc} {B : L2.St → Hp → (Hp → Prop) → Prop} {vs is : List Nat} {g : SV → Mo Unit} {fi : Mo (List PyData)} (hK : KT T K E) (A : At T O M D) (AO : AccOk O D AR) (hM : ∀ l ∈ M, l ∈ O) (hsub : ∀ i ∈ is, i ∈ vs) (hB : LvOk AR T O M D inner B) :
    LvOk AR T O M D (lvA vs fi g inner) fun σ2 H3 Nx => tiOf K E.no fi σ2 H3 fun J1 H4 => ∃ W1 : Nat → Nat → Hp → Prop, (∃ m, W1 0 m H4) ∧ ∀ j k H, W1 j k H → (J1.stop j H ∧ Nx H) ∨ (J1.go j H ∧ ∃ Nx1 : Hp → Prop, (∀ H', Nx1 H' → ∃ k', k' < k ∧ W1 (j + 1) k' H') ∧
      ∀ x H', J1.yld j H x H' → tgOf K is g x (L2.wipe σ2 vs) H' fun σ3 H5 => L2.wipe σ3 vs = L2.wipe σ2 vs ∧ B σ3 H5 Nx1) := by
  intro e2 e3 σ2 H3 acc acc' Nx h r ha fin
  unfold lvA at h
  split at h
  · rename_i ds e q
    refine ⟨T, D :: O, M, e2, .ok ds e, hK.no, r, q, fun J H4 r4 f4 it => ?_⟩
    obtain ⟨o, hD, _⟩ := AO.obj _ _ ha
    exact lv_it hK A AO hsub hB it h r4 hM (AO.mono _ _ _ ha ((f4 _ _ hD A.m).trans hD.symm) (f4.cut r.sub)) fun H' r' ha' f' => fin H' r' ha' ((FrD.of f4).trans f')
  · cases h
end
section
variable {X : Cx} {E : Wish} {pos : Pos} {np : Nat}
theorem PDI.uni {tg e : Expr} {f : Mo (List PyData)} (h : PDI X E tg e f) : PI X tg e (tiOf X.K E f) := by
  obtain ⟨t, h1, h2⟩ := h
  exact ⟨fun pins s σ H Q I ⟨T, O, M, env, o, hK, r, e, p⟩ => h1.run pins s σ H Q I (h2 T O M env σ H Q o hK r e p)⟩
/-- the outermost level -/
def accA (a : Acc) : Mo (List PyData) := fun env => (a [] env).map fun r => .ok r.1 r.2
theorem top_gen {K : PySem.W.Frag} {ob : Addr → HO} {wi : TI} {fi : Mo (List PyData)} {is vs : List Nat} {g : SV → Mo Unit} {inner : Acc} {B : Addr → L2.St → Hp → (Hp → Prop) → Prop} (AR : PySem.W.Frag → List Addr → Addr → Hp → List PyData → Prop) (AO : ∀ K O D, AccOk O D (AR K O D)) (h0 : ∀ K O D H, AR K O D (upd H D (ob D)) []) (hi : SatI K E wi fi) (hsub : ∀ i ∈ is, i ∈ vs)
    (hB : ∀ (T : Ent) (O M : List Addr) (D : Addr), KT T K E → At T O M D → (∀ l ∈ M, l ∈ O) → LvOk (AR T.K O D) T O M D inner (B D)) (T : Ent) (O M : List Addr) (env : PEnv) (σ : L2.St) (H : Hp) (Q : VK) (o : Out (List PyData)) (hK : KT T K E) (rr : R T O M env σ H) (ee : bindM fi (fun ds => accA (lvGo vs g inner ds)) env = some o)
    (p : match o with
      | .ok ys e => ∀ D H', R T O M e σ H' → Fr M H H' → D ∉ O → AR T.K O D H' ys → Q (.ref D) H'
      | .exc C fs => XP T E C fs) :
    wi σ H fun J H1 => ∀ D, H1 D = none → ∃ W : Nat → Nat → Hp → Prop, (∃ m, W 0 m (upd H1 D (ob D))) ∧ ∀ i m H, W i m H →
      (J.stop i H ∧ Q (.ref D) H) ∨ (J.go i H ∧ ∃ Nx : Hp → Prop, (∀ H', Nx H' → ∃ m', m' < m ∧ W (i + 1) m' H') ∧ ∀ x H', J.yld i H x H' → tgOf K is g x (L2.wipe σ vs) H' fun σ2 H2 => L2.wipe σ2 vs = L2.wipe σ vs ∧ B D σ2 H2 Nx) := by
  rcases bind_split ee with ⟨C, fs, h1, rfl⟩ | ⟨ds, env1, h1, h2⟩
  · exact hi T O M env σ H _ (.exc C fs) hK rr h1 p
  refine hi T O M env σ H _ (.ok ds env1) hK rr h1 fun J H1 r1 f1 it => fun D hD => ?_
  unfold accA at h2
  cases q : lvGo vs g inner ds [] env1 with
  | none => rw [q] at h2; cases h2
  | some pr =>
    obtain ⟨ys, envE⟩ := pr
    rw [q] at h2
    cases h2
    have hDO : D ∉ O := r1.new hD
    have A : At T O M D := ⟨fun z => hDO (r1.sub D z), fun x e => by
      by_cases hp : D ∈ T.par.map (·.2)
      · exact hp
      · by_cases ht : D ∈ T.tbs.map (·.1)
        · obtain ⟨ps, e2⟩ := tab_some r1.tabs ht
          rw [hD] at e2; cases e2
        · have := r1.frame D x e hp ht
          rw [hD] at this; cases this⟩
    have s1 : Same (cut O H1) (cut (D :: O) (upd H1 D (ob D))) := cut_same (fun b x e _ => same_upd hD b x e) fun b x e z => by
      rcases List.mem_cons.mp z with rfl | z
      · rw [hD] at e; cases e
      · exact z
    have it' : ItD T.K (D :: O) (upd H1 D (ob D)) J ds := by
      obtain ⟨G, Y, wk, hG, hY⟩ := it.ex
      exact ⟨G, Y, wk, fun O' H' s => hG O' H' (s1.trans s), fun O' i H x H' d l s => hY O' i H x H' d l (s1.trans s)⟩
    refine lv_it hK A (AO _ _ _) hsub (hB T O M D hK A r1.sub) it' q (r1.addO hD) r1.sub (h0 _ _ _ _) fun H2 r2 ha2 f2 => ?_
    exact p D H2 (r2.delO r1.sub r1.ent) (f1.trans fun b o e n => f2 b o (same_upd hD b o e) n fun z => by rw [z, hD] at e; cases e) hDO ha2
theorem top_sat {K : PySem.W.Frag} {wi : TI} {fi : Mo (List PyData)} {is vs : List Nat} {g : SV → Mo Unit} {inner : Acc} {B : Addr → L2.St → Hp → (Hp → Prop) → Prop} (hi : SatI K E wi fi) (hsub : ∀ i ∈ is, i ∈ vs) (hB : ∀ (T : Ent) (O M : List Addr) (D : Addr), KT T K E → At T O M D → (∀ l ∈ M, l ∈ O) → LvOk (ARl T.K O D) T O M D inner (B D)) :
    SatE K E (fun σ H Q => wi σ H fun J H1 => ∀ D, H1 D = none → ∃ W : Nat → Nat → Hp → Prop, (∃ m, W 0 m (upd H1 D (.lst []))) ∧ ∀ i m H, W i m H →
      (J.stop i H ∧ Q (.ref D) H) ∨ (J.go i H ∧ ∃ Nx : Hp → Prop, (∀ H', Nx H' → ∃ m', m' < m ∧ W (i + 1) m' H') ∧ ∀ x H', J.yld i H x H' → tgOf K is g x (L2.wipe σ vs) H' fun σ2 H2 => L2.wipe σ2 vs = L2.wipe σ vs ∧ B D σ2 H2 Nx))
      (bindM fi fun ds => topA (lvGo vs g inner ds)) := by
  intro T O M env σ H Q o hK rr ee p
  have e2 : ∃ o', bindM fi (fun ds => accA (lvGo vs g inner ds)) env = some o' ∧ (match o' with
      | .ok ys e => o = .ok (.da (.list ys)) e
      | .exc C fs => o = .exc C fs) := by
    rcases bind_split ee with ⟨C, fs, h1, rfl⟩ | ⟨ds, env1, h1, h2⟩
    · exact ⟨.exc C fs, by unfold bindM; rw [h1], rfl⟩
    · unfold topA at h2
      cases q : lvGo vs g inner ds [] env1 with
      | none => rw [q] at h2; cases h2
      | some pr => rw [q] at h2; cases h2; exact ⟨.ok pr.1 pr.2, by unfold bindM; rw [h1]; show accA _ _ = _; unfold accA; rw [q]; rfl, rfl⟩
  obtain ⟨o', e3, e4⟩ := e2
  refine top_gen (ob := fun _ => .lst []) (fun K O D => ARl K O D) (fun _ _ _ => arl_ok) (fun K O D H => ⟨[], upd_same, .nil⟩) hi hsub hB T O M env σ H Q o' hK rr e3 ?_
  cases o' with
  | exc C fs => cases e4; exact p
  | ok ys e =>
    cases e4
    intro D H2 r2 f2 hDO ⟨accV, hD2, ha2⟩
    exact p _ H2 r2 f2 (Dp.lst (.inl (.inl (cut_of hD2 hDO))) (DpAll.mono (cut_same (fun _ _ e _ => e) fun _ _ _ z => List.mem_cons_of_mem _ z) _ _ ha2))
end
end Pd
end
section
set_option Elab.async false
set_option linter.all false
set_option maxRecDepth 100000
set_option maxHeartbeats 4000000
namespace Pd
open PySem PySem.Spec PyProof.Rows L2
/-! ### a comprehension's clauses, any number, without tests -/
/-- what a turn of clause k is -/
structure TurnEq (e : Expr) (k : Nat) (tg iter : Expr) (acc : Value) (env : Env) (rest : Sem Fin → Sem Fin) : Prop where
  eq : ∀ it, compTurn e k it acc env = (standAt iter.pos >>= fun _ => pyNext it >>= fun r => match r with
    | none => pure (.done .next)
    | some v => letOwnedTupleGo tg it v >>= fun _ => assign tg env v >>= fun _ => rest (again (.compLoop e k it acc env)))
structure PR (X : Cx) (vs : List Nat) (rest : Sem Fin → Sem Fin) (B : L2.St → Hp → (Hp → Prop) → Prop) : Prop where
  run : ∀ (pins : List (Addr × Obj)) (s : Shared) (σ : L2.St) (H : Hp) (Nx : Hp → Prop) (tail : Sem Fin) (Q : Fin → Shared → Prop) (EE : Value → Shared → Prop), Inv X pins σ H s → B σ H Nx →
    (∀ s' H', Inv X pins (L2.wipe σ vs) H' s' → Nx H' → wpAny (model X.prog X.w) X.A tail Q EE s') → wpAny (model X.prog X.w) X.A (rest tail) Q EE s
def leafR (elt : Expr) (D : Addr) (env : Env) : Sem Fin → Sem Fin := fun tail => (do let _ ← call (.builtin "list.append") [.ref D, ← eval elt env]) >>= fun _ => tail
def stepR (e : Expr) (k : Nat) (iter : Expr) (D : Addr) (env : Env) : Sem Fin → Sem Fin := fun tail => do
  let x ← eval iter env
  standAt iter.pos
  let x ← foldedSetIterable iter env x
  let _ ← runOwn (.compStart e k (← holding [x] (pyIter x)) (.ref D) env) env
  tail
section
variable {X : Cx}
theorem pr_leaf {elt : Expr} {te : TE} {D : Addr} (hx : X.xe = fun _ _ => False) (he : PE X elt te) : PR X [] (leafR elt D X.env) fun σ2 H3 Nx => te σ2 H3 fun y H7 => ∃ acc, H7 D = some (.lst acc) ∧ acc.length < sizeLine ∧ Nx (upd H7 D (.lst (acc ++ [y]))) := by
  refine ⟨fun pins s σ H Nx tail Q EE I h hk => ?_⟩
  have z := he.run pins s σ H _ I h
  rw [hx] at z
  refine wpAny_bind (wpAny_bind (thnF z fun v s1 ⟨y, H1, I1, r1, acc, h1, h2, h3⟩ => wpAny_bind ?_))
  exact L2.app_ok I1 h1 h2 r1 fun s2 I2 => wpAny_pure (hk s2 _ I2 h3)
/-- an expression whose turns are a comprehension's -/
structure ClE (e : Expr) (k : Nat) : Prop where
  den : ∀ (P : Program) (w : World) (it acc : Value) (env : Env), (model P w).den (.compLoop e k it acc env) = (compTurn e k it acc env).onRaise fun x => do noteFrame x env; theTreesLotGoes x
  denS : ∀ (P : Program) (w : World) (it acc : Value) (env : Env), (model P w).den (.compStart e k it acc env) = (compStart e k it acc env).onRaise fun x => do noteFrame x env; standAt theWindowsPlace
  und : ∀ (A : Around) (it acc : Value) (env : Env), A.under (.compLoop e k it acc env) = A
  undS : ∀ (A : Around) (it acc : Value) (env : Env), A.under (.compStart e k it acc env) = A
theorem cle_list {elt : Expr} {gens : List Comprehension} {scope : Scope} {pos : Pos} {k : Nat} : ClE (.ListComp elt gens scope pos) k := ⟨fun _ _ _ _ _ => rfl, fun _ _ _ _ _ => rfl, fun _ _ _ _ => rfl, fun _ _ _ _ => rfl⟩
theorem cle_set {elt : Expr} {gens : List Comprehension} {scope : Scope} {pos : Pos} {k : Nat} : ClE (.SetComp elt gens scope pos) k := ⟨fun _ _ _ _ _ => rfl, fun _ _ _ _ _ => rfl, fun _ _ _ _ => rfl, fun _ _ _ _ => rfl⟩
/-- one level's loop -/
theorem lvl_loop {e : Expr} {k : Nat} {tg iter : Expr} {D it : Addr} {rest : Sem Fin → Sem Fin} {g : TG} {vs vsr : List Nat} {B : L2.St → Hp → (Hp → Prop) → Prop} {J : It} {fp : List Addr} {tn : Nat → Heap → Prop} {pins : List (Addr × Obj)} {σ : L2.St} {Qd : Hp → Prop} {W : Nat → Nat → Hp → Prop}
    (ce : ClE e k) (hc : X.calm = true) (hx : X.xe = fun _ _ => False) (te : TurnEq e k tg iter (.ref D) X.env rest) (pg : PG X tg g) (pr : PR X vsr rest B) (hv : ∀ i ∈ vsr, i ∈ vs) (T : Turn X.prog X.w X.K tg J fp it tn) (hfp : ∀ H' : Hp, (∀ b ∈ fp, H' b = none) → ∀ b ∈ fp, FpOk X pins H' b)
    (turn : ∀ i m H, W i m H → (J.stop i H ∧ Qd H) ∨ (J.go i H ∧ ∃ Nx : Hp → Prop, (∀ H', Nx H' → ∃ m', m' < m ∧ W (i + 1) m' H') ∧ ∀ x H', J.yld i H x H' → g x (L2.wipe σ vs) H' fun σ2 H2 => L2.wipe σ2 vs = L2.wipe σ vs ∧ B σ2 H2 Nx))
    {R : Result → Shared → Prop} (fin : ∀ s' H', Inv X pins (L2.wipe σ vs) H' s' → Qd H' → R (.ok .next) s') {m0 : Nat} {H0 : Hp} {s : Shared} (I0 : Inv X pins (L2.wipe σ vs) H0 s) (st0 : tn 0 s.heap) (n0 : ∀ b ∈ fp, H0 b = none) (w0 : W 0 m0 H0) :
    codeAny (model X.prog X.w) X.A (.compLoop e k (.ref it) (.ref D) X.env) R s := by
  refine codeAny_loop rfl (fun n s' => ∃ i H', Inv X pins (L2.wipe σ vs) H' s' ∧ tn i s'.heap ∧ (∀ b ∈ fp, H' b = none) ∧ W i n H') (fun n s5 hI => ?_) m0 ⟨0, H0, I0, st0, n0, w0⟩
  obtain ⟨i, H5, I5, st5, n5, w5⟩ := hI
  rw [ce.den, ce.und]
  refine wpAny_noted ?_
  rw [te.eq]
  refine wpAny_bind (wpAny_standAt (wpAny_bind ?_))
  rcases turn i n H5 w5 with ⟨stop, qq⟩ | ⟨go, Nx, hNx, step⟩
  · refine thnF (T.done X rfl rfl rfl hc i pins s5 _ H5 (fun _ _ => False) I5 (hfp _ n5) st5 stop) fun r s6 ⟨hr, I6⟩ => ?_
    subst hr
    exact wpAny_pure (fin s6 H5 I6 qq)
  · refine thnF (T.item X rfl rfl rfl hc i pins s5 _ H5 (fun _ _ => False) I5 (hfp _ n5) st5 go) fun r s6 ⟨u, hr, h6⟩ => ?_
    subst hr
    refine wpAny_bind (thnF h6 fun _ s7 ⟨x, H7, I7, r7, y7, st7, n7⟩ => wpAny_bind ?_)
    have I8 := I7.pinned (hfp _ n7) (T.obj _ _ st7)
    have z := pg.run _ s7 _ H7 x u _ I8 r7 (step x H7 y7)
    rw [hx] at z
    refine thnF z fun _ s9 ⟨σ9, H9, I9, hw, q9⟩ => ?_
    refine pr.run _ s9 σ9 H9 Nx _ _ _ I9 q9 fun s' H' I' nx => wpAny_pure ⟨rfl, ?_⟩
    obtain ⟨m', hm, w'⟩ := hNx H' nx
    have keep : ∀ b ∈ fp, ∀ o, s7.heap.get? b = some o → s'.heap.get? b = some o ∧ H' b = none := fun b hb o e =>
      ⟨(I'.pin (b, o) (List.mem_append_right _ (List.mem_append_right _ (mem_pinsAt hb e)))).1, (I'.pin (b, o) (List.mem_append_right _ (List.mem_append_right _ (mem_pinsAt hb e)))).2.1⟩
    refine ⟨m', hm, i + 1, H', I'.unpinned.weak (by rw [wipe_length σ9 vsr, ← wipe_length σ9 vs, hw]) (fun j v e => ?_), T.keep _ _ _ st7 fun b hb o e => (keep b hb o e).1, fun b hb => ?_, w'⟩
    · rw [← hw] at e
      obtain ⟨e1, e2⟩ := wipe_some e
      rw [wipe_out fun z => e2 (hv j z)]
      exact e1
    · obtain ⟨o, e, _⟩ := T.obj _ _ st7 b hb
      exact (keep b hb o e).2
theorem start_ok {M : Program × World} {A : Around} {e : Expr} {k : Nat} {tg iter : Expr} {ifs : List Expr} {it acc : Value} {env : Env} {R : Result → Shared → Prop} {s : Shared} (ce : ClE e k) (hcl : (clausesOf e)[k]? = some ⟨tg, iter, ifs, 0⟩)
    (h0 : codeAny (model M.1 M.2) A (.compLoop e k it acc env) R s)
    (h : wpAny (model M.1 M.2) A (pyIter it) (fun it' s' => codeAny (model M.1 M.2) A (.compLoop e k it' acc env) R s') (notedBy (model M.1 M.2) A env fun x s' => R (.error x) s') s) :
    codeAny (model M.1 M.2) A (.compStart e k it acc env) R s := by
  refine codeAny_of_tree ?_
  rw [ce.denS, ce.undS]
  refine wpAny_notedAt ?_
  unfold compStart
  rw [hcl]
  show wpAny _ _ (ask >>= _) _ _ s
  refine wpAny_bind (wpAny_askSetting (wpAny_ite ?_))
  split
  · first
      | exact wpAny_pure ⟨rfl, h0⟩
      | exact wpAny_bind (wpAny_pure (wpAny_pure ⟨rfl, h0⟩))
  · refine wpAny_bind (wpAny_rule ?_)
    show wpAny _ _ (standAt iter.pos >>= _) _ _ s
    exact wpAny_bind (wpAny_standAt (wpAny_bind (wpAny_mono h (fun it' s' h' => wpAny_pure ⟨rfl, h'⟩) fun _ _ x => x)))
/-- the next clause as what follows a store -/
theorem pr_step {e : Expr} {k : Nat} {tg iter : Expr} {ifs : List Expr} {D : Addr} {rest : Sem Fin → Sem Fin} {g : TG} {wi : TI} {vs vsr : List Nat} {B : L2.St → Hp → (Hp → Prop) → Prop} (ce : ClE e k) (hc : X.calm = true) (hx : X.xe = fun _ _ => False) (hcl : (clausesOf e)[k]? = some ⟨tg, iter, ifs, 0⟩)
    (te : TurnEq e k tg iter (.ref D) X.env rest) (hs : ∀ x, foldedSetIterable iter X.env x = pure x) (pi : PI X tg iter wi) (pg : PG X tg g) (pr : PR X vsr rest B) (hv : ∀ i ∈ vsr, i ∈ vs) :
    PR X vs (stepR e k iter D X.env) fun σ2 H3 Nx => wi σ2 H3 fun J1 H4 => ∃ W1 : Nat → Nat → Hp → Prop, (∃ m, W1 0 m H4) ∧ ∀ j k H, W1 j k H → (J1.stop j H ∧ Nx H) ∨ (J1.go j H ∧ ∃ Nx1 : Hp → Prop, (∀ H', Nx1 H' → ∃ k', k' < k ∧ W1 (j + 1) k' H') ∧
      ∀ x H', J1.yld j H x H' → g x (L2.wipe σ2 vs) H' fun σ3 H5 => L2.wipe σ3 vs = L2.wipe σ2 vs ∧ B σ3 H5 Nx1) := by
  refine ⟨fun pins s σ H Nx tail Q EE I h hk => ?_⟩
  have z := pi.run pins s σ H _ I h
  rw [hx] at z
  unfold stepR
  refine wpAny_bind (thnF z fun v s1 h1 => wpAny_bind (wpAny_standAt (wpAny_bind (wpAny_of_eq (hs v) (wpAny_bind (wpAny_holding (thnF h1 fun itv s2 h2 => ?_)))))))
  obtain ⟨it, fp, tn, J, H2, rfl, I2, T, st2, f2, W, ⟨m0, w0⟩, turn⟩ := h2
  refine wpAny_bind (wpAny_runOwn ?_)
  rw [Around.mark_none]
  have loop : codeAny (model X.prog X.w) X.A (.compLoop e k (.ref it) (.ref D) X.env) (fun r s' => match r with
      | .ok _ => wpAny (model X.prog X.w) X.A tail Q EE s'
      | .error _ => False) s2 :=
    lvl_loop ce hc hx te pg pr hv T (fun H' hn b hb => ⟨hn b hb, (f2 b hb).2⟩) turn (fun s' H' I' q => hk s' H' I' q) (I2.weak (wipe_length _ _) fun j v e => (wipe_some e).1) st2 (fun b hb => (f2 b hb).1) w0
  refine codeAny_mono (start_ok (M := (X.prog, X.w)) ce hcl loop (T.self X.A 0 _ _ _ st2 loop)) fun r s' hr => ?_
  cases r with
  | ok f => exact hr
  | error x => exact hr.elim
/-- the outermost clause, and the turns of its loop -/
def tLcN (ob : Addr → HO) (wi : TI) (g : TG) (vs : List Nat) (B : Addr → L2.St → Hp → (Hp → Prop) → Prop) : TE := fun σ H Q => wi σ H fun J H1 => ∀ D, H1 D = none → ∃ W : Nat → Nat → Hp → Prop, (∃ m, W 0 m (upd H1 D (ob D))) ∧ ∀ i m H, W i m H →
  (J.stop i H ∧ Q (.ref D) H) ∨ (J.go i H ∧ ∃ Nx : Hp → Prop, (∀ H', Nx H' → ∃ m', m' < m ∧ W (i + 1) m' H') ∧ ∀ x H', J.yld i H x H' → g x (L2.wipe σ vs) H' fun σ2 H2 => L2.wipe σ2 vs = L2.wipe σ vs ∧ B D σ2 H2 Nx)
theorem lcn_core {ob : Addr → HO} {e : Expr} {newAcc : Sem Value} {pins : List (Addr × Obj)} {s : Shared} {σ : L2.St} {H : Hp} {Q : VK} {tg iter : Expr} {gs : List Comprehension} {scope : Scope} {own : List (Str × Nat)} {vsr : List Nat} {pos' : Pos} {wi : TI} {g : TG} {B : Addr → L2.St → Hp → (Hp → Prop) → Prop} {rest : Addr → Env → Sem Fin → Sem Fin} {use : Option (Value → Sem Unit)} {Qf : Value → Shared → Prop}
    (ce : ClE e 0) (hcl : clausesOf e = ⟨tg, iter, [], 0⟩ :: gs) (hnew : ∀ (s2 : Shared) (H2 : Hp) (Q2 : Value → Shared → Prop), Inv X pins σ H2 s2 → (∀ s3, Inv X pins σ (upd H2 s2.heap.objs.size (ob s2.heap.objs.size)) s3 → (∀ b o, s2.heap.get? b = some o → s3.heap.get? b = some o) → s2.heap.objs.size < s3.heap.objs.size → Q2 (.ref s2.heap.objs.size) s3) → wpAny (model X.prog X.w) X.A newAcc Q2 X.xe s2)
    (hc : X.calm = true) (hN : X.N.Nodup) (I : Inv X pins σ H s) (hi : PI X tg iter wi) (ok : BlkOk X.N X.env.scope scope own) (hs : ∀ x, foldedSetIterable iter X.env x = pure x)
    (te : ∀ D env, TurnEq e 0 tg iter (.ref D) env (rest D env))
    (hg : ∀ (s : Shared) (H : Hp) (C : Addr) (cl : List (Str × Addr)) (fp : List Addr), PG (X.blk s H scope (compEnvC scope cl C X.env) fp) tg g)
    (hr : ∀ (D : Addr) (s : Shared) (H : Hp) (C : Addr) (cl : List (Str × Addr)) (fp : List Addr), PR (X.blk s H scope (compEnvC scope cl C X.env) fp) vsr (rest D (compEnvC scope cl C X.env)) (B D)) (hv : ∀ i ∈ vsr, i ∈ own.map (·.2))
    (h : tLcN ob wi g (own.map (·.2)) B σ H Q)
    (hRR : ∀ D C s' m H', Inv X pins σ H' s' → Q (.ref D) H' → s'.heap.Ns C m → FpOk X pins H' C → compPost (model X.prog X.w) X.A X.xe use Qf (.ref D) C (.ok .next) s') :
    wpAny (model X.prog X.w) X.A (comprehension e scope X.env pos' newAcc false (eval iter X.env) use) Qf X.xe s := by
  have free : ∀ y ∈ scope.names, y.2 = .free → ∃ c, X.env.cells.lookup y.1 = some c := fun y hy e => (ok.free y hy e).elim (fun z => I.ok.has _ (.inl z)) fun z => I.ok.has _ (.inr z)
  refine wpAny_comprehension_free (use := use) hcl hs (closure_ok free) ok.kind (fun y hy e => by rw [ok.uniq y hy, e]) (thn (hi.run pins s σ H _ I h) fun _ s1 k1 => thn k1 fun itv s2 k2 => ?_)
  obtain ⟨it, fp, tn, J, H2, rfl, I2, T, st2, f2, q⟩ := k2
  refine hnew s2 H2 _ I2 fun s3 I3 heap3 lt3 => newEnv_comp ?_
  have fresh : H2 s2.heap.objs.size = none := I2.hok.fresh (Nat.le_refl _)
  obtain ⟨W, ⟨m0, w0⟩, turn⟩ := q _ fresh
  generalize hD : s2.heap.objs.size = D at fresh turn w0 I3 lt3 ⊢
  have f3 : ∀ b ∈ fp, FpOk X pins (upd H2 D (ob D)) b ∧ b < s3.heap.objs.size := fun b hb => by
    obtain ⟨o, e, _⟩ := T.obj _ _ st2 b hb
    have lt : b < s2.heap.objs.size := Heap.lt_size e
    refine ⟨⟨?_, (f2 b hb).2⟩, Nat.lt_trans (by rw [← hD]; exact lt) lt3⟩
    rw [upd_ne (by rw [← hD]; exact Nat.ne_of_lt lt)]
    exact (f2 b hb).1
  have st3 : tn 0 s3.heap := T.keep _ _ _ st2 fun b _ o e => heap3 b o e
  have I4 := block_start I3 ok hN f3
  have st4 : tn 0 (pushCells (s3.heap.push { cls := .type "dict", data := .dict #[] }) scope.names) := T.keep _ _ _ st3 fun b _ o e => pushCells_keeps _ _ _ _ (Heap.get?_push_of_some _ e)
  have loop := lvl_loop (X := X.blk s3 (upd H2 D (ob D)) scope (compEnvC scope (cellsFrom (s3.heap.objs.size + 1) scope.names (cloFrom X.env.cells scope.names [])) s3.heap.objs.size X.env) fp) (pins := []) (σ := σ) (R := compPost (model X.prog X.w) X.A X.xe use Qf (.ref D) s3.heap.objs.size)
    (vs := own.map (·.2)) ce hc rfl (te D _) (hg _ _ _ _ _) (hr D _ _ _ _ _) hv T (fun H' hn b hb => ?_) turn (fun s6 H5 I6 qq => ?_) I4 st4 (fun b hb => (f3 b hb).1.1) w0
  · exact start_ok (M := (X.prog, X.w)) (k := 0) ce (by rw [hcl]; rfl) loop (T.self X.A 0 _ _ _ st4 loop)
  · exact ⟨hn b hb, (I4.ok.exf b hb).1, I4.ok.exfs b hb, .inl hb, fun x c e => (I4.ok.exf b hb).2 x c e, fun p hp => absurd (show p ∈ ([] : List (Addr × Obj)) ++ [] from hp) (by simp)⟩
  · have I7 : Inv X pins σ H5 s6 := I3.call' (ch := fp) I6.os I6.base I6.hok I6.bare fun b hb => ⟨(f3 b hb).1.2.2.2.1, (f3 b hb).1.2.1, (f3 b hb).1.2.2.2.2.1, (f3 b hb).1.2.2.2.2.2⟩
    obtain ⟨m, hn, _⟩ := I6.loc
    exact hRR D s3.heap.objs.size s6 m H5 I7 qq hn (I3.fpOk (Nat.le_refl _) I6.free)
theorem new_list {pins : List (Addr × Obj)} {σ : L2.St} (s2 : Shared) (H2 : Hp) (Q2 : Value → Shared → Prop) (I2 : Inv X pins σ H2 s2) (h : ∀ s3, Inv X pins σ (upd H2 s2.heap.objs.size (.lst [])) s3 → (∀ b o, s2.heap.get? b = some o → s3.heap.get? b = some o) → s2.heap.objs.size < s3.heap.objs.size → Q2 (.ref s2.heap.objs.size) s3) : wpAny (model X.prog X.w) X.A (newList []) Q2 X.xe s2 := by
  have old : ∀ b o, s2.heap.get? b = some o → (s2.heap.push { cls := .type "list", data := .seq ([] : List Value).toArray }).get? b = some o := fun b o e => Heap.get?_push_of_some _ e
  exact wpAny_newObj_type (h _ (I2.laid (t' := s2.toks) old (Nat.le_refl _) ⟨Nat.zero_le _, [], 0, .nil, Heap.get?_push_size _ rfl⟩) old (by rw [Heap.size_push]; exact Nat.lt_succ_self _)) (Nat.zero_le _)
theorem pe_lcN {elt tg iter : Expr} {gs : List Comprehension} {scope : Scope} {own : List (Str × Nat)} {vsr : List Nat} {pos : Pos} {wi : TI} {g : TG} {B : Addr → L2.St → Hp → (Hp → Prop) → Prop} {rest : Addr → Env → Sem Fin → Sem Fin}
    (hc : X.calm = true) (hN : X.N.Nodup) (hi : PI X tg iter wi) (ok : BlkOk X.N X.env.scope scope own) (hs : ∀ x, foldedSetIterable iter X.env x = pure x)
    (te : ∀ D env, TurnEq (.ListComp elt (⟨tg, iter, [], 0⟩ :: gs) scope pos) 0 tg iter (.ref D) env (rest D env))
    (hg : ∀ (s : Shared) (H : Hp) (C : Addr) (cl : List (Str × Addr)) (fp : List Addr), PG (X.blk s H scope (compEnvC scope cl C X.env) fp) tg g)
    (hr : ∀ (D : Addr) (s : Shared) (H : Hp) (C : Addr) (cl : List (Str × Addr)) (fp : List Addr), PR (X.blk s H scope (compEnvC scope cl C X.env) fp) vsr (rest D (compEnvC scope cl C X.env)) (B D)) (hv : ∀ i ∈ vsr, i ∈ own.map (·.2)) :
    PE X (.ListComp elt (⟨tg, iter, [], 0⟩ :: gs) scope pos) (tLcN (fun _ => .lst []) wi g (own.map (·.2)) B) := by
  refine ⟨fun pins s σ H Q I h => ?_⟩
  rw [eval_ListComp]
  refine lcn_core cle_list rfl new_list hc hN I hi ok hs te hg hr hv h fun D C s' m H' I' q hn f => ⟨m, hn, fun h2 sb => ?_⟩
  obtain ⟨z0, z1, z2, z3, z4, z5⟩ := f
  exact ⟨.ref D, H', I'.turned (t' := s'.toks) (fun b o hb e => (sb.2 b hb).trans e) z0 z1 z3 z4 z5, rfl, q⟩
theorem ps_setLcN {i : Nat} {y : Str} {py : Pos} {elt tg iter : Expr} {gs : List Comprehension} {scope : Scope} {own : List (Str × Nat)} {vsr : List Nat} {pos spos : Pos} {wi : TI} {g : TG} {B : Addr → L2.St → Hp → (Hp → Prop) → Prop} {rest : Addr → Env → Sem Fin → Sem Fin}
    (hc : X.calm = true) (hN : X.N.Nodup) (hy : X.N[i]? = some y) (hyl : X.env.scope.names.lookup y = some .local)
    (hsw : swapsWith (.ListComp elt (⟨tg, iter, [], 0⟩ :: gs) scope pos) (some (.Name y py)) spos.line X.env = pure true) (hi : PI X tg iter wi) (ok : BlkOk X.N X.env.scope scope own) (hs : ∀ x, foldedSetIterable iter X.env x = pure x)
    (te : ∀ D env, TurnEq (.ListComp elt (⟨tg, iter, [], 0⟩ :: gs) scope pos) 0 tg iter (.ref D) env (rest D env))
    (hg : ∀ (s : Shared) (H : Hp) (C : Addr) (cl : List (Str × Addr)) (fp : List Addr), PG (X.blk s H scope (compEnvC scope cl C X.env) fp) tg g)
    (hr : ∀ (D : Addr) (s : Shared) (H : Hp) (C : Addr) (cl : List (Str × Addr)) (fp : List Addr), PR (X.blk s H scope (compEnvC scope cl C X.env) fp) vsr (rest D (compEnvC scope cl C X.env)) (B D)) (hv : ∀ i ∈ vsr, i ∈ own.map (·.2)) :
    PS X (.Assign [.Name y py] (.ListComp elt (⟨tg, iter, [], 0⟩ :: gs) scope pos) spos) (tAsg (tLcN (fun _ => .lst []) wi g (own.map (·.2)) B) (gName i)) := by
  refine ⟨fun pins s σ H D I h => ?_⟩
  rw [exec_Assign_Name_used _ _ _ _ hsw]
  refine wpAny_bind (wpAny_standAt (wpAny_bind ?_))
  have h : tLcN (fun _ => .lst []) wi g (own.map (·.2)) B σ H (fun x H1 => gName i x σ H1 D.nx) := h
  have core : wpAny (model X.prog X.w) X.A (comprehension (.ListComp elt (⟨tg, iter, [], 0⟩ :: gs) scope pos) scope X.env (firstIterPos (⟨tg, iter, [], 0⟩ :: gs) pos) (newList []) false (eval iter X.env) (some (assign (.Name y py) X.env))) (fun _ s' => SP X pins D .next s') X.xe s := by
    refine lcn_core cle_list rfl new_list hc hN I hi ok hs te hg hr hv h fun L C s' m H' I' q hn f => ?_
    show wpAny _ _ (assign (.Name y py) X.env (.ref L)) _ _ _
    obtain ⟨z0, z1, z2, z3, z4, z5⟩ := f
    refine wpAny_assign_Name (store_ok2 (v := V.ref L) I' hN hy (.inl hyl) rfl (fun s2 I2 ⟨a, sb, ha⟩ => ?_) (.inr hyl))
    have far : C ≠ a := by
      rcases ha with z | z
      · rw [z]; exact z1
      · exact fun e => z4 y a z e.symm
    exact ⟨m, hn.sameBut sb far, fun h3 sb3 => ⟨_, H', I2.turned (t' := s2.toks) (fun b o hb e => (sb3.2 b hb).trans e) z0 z1 z3 z4 z5, q⟩⟩
  exact wpAny_bind (thn core fun _ s' hq => wpAny_pure (wpAny_pure hq))
variable {E : Wish} {pos : Pos} {np : Nat}
abbrev BL (K : PySem.W.Frag) (E : Wish) (te : Mo SV) (D : Addr) : L2.St → Hp → (Hp → Prop) → Prop := fun σ2 H3 Nx => tOf K E te σ2 H3 fun y H7 => ∃ acc, H7 D = some (.lst acc) ∧ acc.length < sizeLine ∧ Nx (upd H7 D (.lst (acc ++ [y])))
abbrev BS (K : PySem.W.Frag) (E : Wish) (fi : Mo (List PyData)) (is vs : List Nat) (g : SV → Mo Unit) (B : L2.St → Hp → (Hp → Prop) → Prop) : L2.St → Hp → (Hp → Prop) → Prop := fun σ2 H3 Nx => tiOf K E fi σ2 H3 fun J1 H4 => ∃ W1 : Nat → Nat → Hp → Prop, (∃ m, W1 0 m H4) ∧ ∀ j k H, W1 j k H → (J1.stop j H ∧ Nx H) ∨ (J1.go j H ∧ ∃ Nx1 : Hp → Prop, (∀ H', Nx1 H' → ∃ k', k' < k ∧ W1 (j + 1) k' H') ∧
      ∀ x H', J1.yld j H x H' → tgOf K is g x (L2.wipe σ2 vs) H' fun σ3 H5 => L2.wipe σ3 vs = L2.wipe σ2 vs ∧ B σ3 H5 Nx1)
theorem lcN_sat2 {K : PySem.W.Frag} {wi : TI} {fi fi1 : Mo (List PyData)} {is is1 vs vs1 : List Nat} {g g1 : SV → Mo Unit} {te : Mo SV} (hi : SatI K E wi fi) (hsub : ∀ i ∈ is, i ∈ vs) (hsub1 : ∀ i ∈ is1, i ∈ vs1) :
    SatE K E (tLcN (fun _ => .lst []) wi (tgOf K is g) vs fun D => BS K E.no fi1 is1 vs1 g1 (BL K E.no te D)) (lc2M vs vs1 fi g fi1 g1 te) :=
  top_sat hi hsub fun T O M D hK A hM => lv_ok hK A arl_ok hM hsub1 (leaf_ok hK A)
theorem lcN_sat3 {K : PySem.W.Frag} {wi : TI} {fi fi1 fi2 : Mo (List PyData)} {is is1 is2 vs vs1 vs2 : List Nat} {g g1 g2 : SV → Mo Unit} {te : Mo SV} (hi : SatI K E wi fi) (hsub : ∀ i ∈ is, i ∈ vs) (hsub1 : ∀ i ∈ is1, i ∈ vs1) (hsub2 : ∀ i ∈ is2, i ∈ vs2) :
    SatE K E (tLcN (fun _ => .lst []) wi (tgOf K is g) vs fun D => BS K E.no fi1 is1 (vs1 ++ vs2) g1 (BS K E.no fi2 is2 vs2 g2 (BL K E.no te D))) (lc3M vs vs1 vs2 fi g fi1 g1 fi2 g2 te) :=
  top_sat hi hsub fun T O M D hK A hM => lv_ok hK A arl_ok hM (fun i h => List.mem_append_left _ (hsub1 i h)) (lv_ok hK A arl_ok hM hsub2 (leaf_ok hK A))
theorem pd_lc2 {elt tg iter tg1 iter1 : Expr} {scope : Scope} {own : List (Str × Nat)} {vs1 : List Nat} {fi fi1 : Mo (List PyData)} {is is1 : List Nat} {g g1 : SV → Mo Unit} {te : Mo SV} (hc : X.calm = true) (hN : X.N.Nodup) (hi : PDI X E tg iter fi) (ok : BlkOk X.N X.env.scope scope own)
    (hg : ∀ (s : Shared) (H : Hp) (C : Addr) (cl : List (Str × Addr)) (fp : List Addr), PDG (X.blk s H scope (compEnvC scope cl C X.env) fp) tg is g)
    (hi1 : ∀ (s : Shared) (H : Hp) (C : Addr) (cl : List (Str × Addr)) (fp : List Addr), PDI (X.blk s H scope (compEnvC scope cl C X.env) fp) E.no tg1 iter1 fi1)
    (hg1 : ∀ (s : Shared) (H : Hp) (C : Addr) (cl : List (Str × Addr)) (fp : List Addr), PDG (X.blk s H scope (compEnvC scope cl C X.env) fp) tg1 is1 g1)
    (he : ∀ (s : Shared) (H : Hp) (C : Addr) (cl : List (Str × Addr)) (fp : List Addr), PDE (X.blk s H scope (compEnvC scope cl C X.env) fp) E.no elt te) (hsub : ∀ i ∈ is, i ∈ own.map (·.2) := by decide) (hsub1 : ∀ i ∈ is1, i ∈ vs1 := by decide) (hv : ∀ i ∈ vs1, i ∈ own.map (·.2) := by decide)
    (hs : ∀ x, foldedSetIterable iter X.env x = pure x := by intro _; rfl) (hs1 : ∀ env x, foldedSetIterable iter1 env x = pure x := by intro _ _; rfl) :
    PDE X E (.ListComp elt [⟨tg, iter, [], 0⟩, ⟨tg1, iter1, [], 0⟩] scope pos) (lc2M (own.map (·.2)) vs1 fi g fi1 g1 te) := by
  obtain ⟨wi, i1, i2⟩ := hi
  exact ⟨_, pe_lcN (vsr := vs1) (B := fun D => BS X.K E.no fi1 is1 vs1 g1 (BL X.K E.no te D)) (rest := fun D env => stepR (.ListComp elt [⟨tg, iter, [], 0⟩, ⟨tg1, iter1, [], 0⟩] scope pos) 1 iter1 D env) hc hN i1 ok hs (fun D env => ⟨fun it => by rfl⟩) (fun s H C cl fp => (hg s H C cl fp).uni) (fun D s H C cl fp => pr_step cle_list hc rfl rfl ⟨fun it => by rfl⟩ (hs1 _) (hi1 s H C cl fp).uni (hg1 s H C cl fp).uni (pr_leaf rfl (he s H C cl fp).uni) (fun _ z => nomatch z)) hv, lcN_sat2 i2 hsub hsub1⟩
theorem pds_setLc2 (i : Nat) {y : Str} {py spos : Pos} {elt tg iter tg1 iter1 : Expr} {scope : Scope} {own : List (Str × Nat)} {vs1 : List Nat} {fi fi1 : Mo (List PyData)} {is is1 : List Nat} {g g1 : SV → Mo Unit} {te : Mo SV} (hc : X.calm = true) (hN : X.N.Nodup) (hy : X.N[i]? = some y) (hyl : X.env.scope.names.lookup y = some .local)
    (hsw : swapsWith (.ListComp elt [⟨tg, iter, [], 0⟩, ⟨tg1, iter1, [], 0⟩] scope pos) (some (.Name y py)) spos.line X.env = pure true) (hi : PDI X E tg iter fi) (ok : BlkOk X.N X.env.scope scope own)
    (hg : ∀ (s : Shared) (H : Hp) (C : Addr) (cl : List (Str × Addr)) (fp : List Addr), PDG (X.blk s H scope (compEnvC scope cl C X.env) fp) tg is g)
    (hi1 : ∀ (s : Shared) (H : Hp) (C : Addr) (cl : List (Str × Addr)) (fp : List Addr), PDI (X.blk s H scope (compEnvC scope cl C X.env) fp) E.no tg1 iter1 fi1)
    (hg1 : ∀ (s : Shared) (H : Hp) (C : Addr) (cl : List (Str × Addr)) (fp : List Addr), PDG (X.blk s H scope (compEnvC scope cl C X.env) fp) tg1 is1 g1)
    (he : ∀ (s : Shared) (H : Hp) (C : Addr) (cl : List (Str × Addr)) (fp : List Addr), PDE (X.blk s H scope (compEnvC scope cl C X.env) fp) E.no elt te) (hsub : ∀ i ∈ is, i ∈ own.map (·.2) := by decide) (hsub1 : ∀ i ∈ is1, i ∈ vs1 := by decide) (hv : ∀ i ∈ vs1, i ∈ own.map (·.2) := by decide)
    (hs : ∀ x, foldedSetIterable iter X.env x = pure x := by intro _; rfl) (hs1 : ∀ env x, foldedSetIterable iter1 env x = pure x := by intro _ _; rfl) :
    PDS X np E (.Assign [.Name y py] (.ListComp elt [⟨tg, iter, [], 0⟩, ⟨tg1, iter1, [], 0⟩] scope pos) spos) (setS i (lc2M (own.map (·.2)) vs1 fi g fi1 g1 te)) := by
  obtain ⟨wi, i1, i2⟩ := hi
  refine ⟨_, ps_setLcN (g := tgOf X.K is g) (vsr := vs1) (B := fun D => BS X.K E.no fi1 is1 vs1 g1 (BL X.K E.no te D)) (rest := fun D env => stepR (.ListComp elt [⟨tg, iter, [], 0⟩, ⟨tg1, iter1, [], 0⟩] scope pos) 1 iter1 D env) hc hN hy hyl hsw i1 ok hs (fun D env => ⟨fun it => by rfl⟩) (fun s H C cl fp => (hg s H C cl fp).uni) (fun D s H C cl fp => pr_step cle_list hc rfl rfl ⟨fun it => by rfl⟩ (hs1 _) (hi1 s H C cl fp).uni (hg1 s H C cl fp).uni (pr_leaf rfl (he s H C cl fp).uni) (fun _ z => nomatch z)) hv, fun T O M env σ H D o hK hP r e p => ?_⟩
  refine (lcN_sat2 i2 hsub hsub1).within (Q := fun x H1 => gName i x σ H1 D.nx) hK r e p fun x e1 v H' ek r' p' rp s => ?_
  rcases withE_split ek with ⟨C, fs, z, _⟩ | ⟨_, e2, q1, q2⟩
  · exact absurd z (setM_no _ _ _ _ _)
  · cases q2
    obtain ⟨w1, w2, w3⟩ := setM_some q1
    cases w3
    exact p' O M _ H' (r'.setv w1 rp) (Same.refl _)
theorem pd_lc3 {elt tg iter tg1 iter1 tg2 iter2 : Expr} {scope : Scope} {own : List (Str × Nat)} {vs1 vs2 : List Nat} {fi fi1 fi2 : Mo (List PyData)} {is is1 is2 : List Nat} {g g1 g2 : SV → Mo Unit} {te : Mo SV} (hc : X.calm = true) (hN : X.N.Nodup) (hi : PDI X E tg iter fi) (ok : BlkOk X.N X.env.scope scope own)
    (hg : ∀ (s : Shared) (H : Hp) (C : Addr) (cl : List (Str × Addr)) (fp : List Addr), PDG (X.blk s H scope (compEnvC scope cl C X.env) fp) tg is g)
    (hi1 : ∀ (s : Shared) (H : Hp) (C : Addr) (cl : List (Str × Addr)) (fp : List Addr), PDI (X.blk s H scope (compEnvC scope cl C X.env) fp) E.no tg1 iter1 fi1)
    (hg1 : ∀ (s : Shared) (H : Hp) (C : Addr) (cl : List (Str × Addr)) (fp : List Addr), PDG (X.blk s H scope (compEnvC scope cl C X.env) fp) tg1 is1 g1)
    (hi2 : ∀ (s : Shared) (H : Hp) (C : Addr) (cl : List (Str × Addr)) (fp : List Addr), PDI (X.blk s H scope (compEnvC scope cl C X.env) fp) E.no tg2 iter2 fi2)
    (hg2 : ∀ (s : Shared) (H : Hp) (C : Addr) (cl : List (Str × Addr)) (fp : List Addr), PDG (X.blk s H scope (compEnvC scope cl C X.env) fp) tg2 is2 g2)
    (he : ∀ (s : Shared) (H : Hp) (C : Addr) (cl : List (Str × Addr)) (fp : List Addr), PDE (X.blk s H scope (compEnvC scope cl C X.env) fp) E.no elt te) (hsub : ∀ i ∈ is, i ∈ own.map (·.2) := by decide) (hsub1 : ∀ i ∈ is1, i ∈ vs1 := by decide) (hsub2 : ∀ i ∈ is2, i ∈ vs2 := by decide) (hv2 : ∀ i ∈ vs2, i ∈ own.map (·.2) := by decide) (hv : ∀ i ∈ vs1, i ∈ own.map (·.2) := by decide)
    (hs : ∀ x, foldedSetIterable iter X.env x = pure x := by intro _; rfl) (hs2 : ∀ env x, foldedSetIterable iter2 env x = pure x := by intro _ _; rfl) (hs1 : ∀ env x, foldedSetIterable iter1 env x = pure x := by intro _ _; rfl) :
    PDE X E (.ListComp elt [⟨tg, iter, [], 0⟩, ⟨tg1, iter1, [], 0⟩, ⟨tg2, iter2, [], 0⟩] scope pos) (lc3M (own.map (·.2)) vs1 vs2 fi g fi1 g1 fi2 g2 te) := by
  obtain ⟨wi, i1, i2⟩ := hi
  exact ⟨_, pe_lcN (vsr := vs1 ++ vs2) (B := fun D => BS X.K E.no fi1 is1 (vs1 ++ vs2) g1 (BS X.K E.no fi2 is2 vs2 g2 (BL X.K E.no te D))) (rest := fun D env => stepR (.ListComp elt [⟨tg, iter, [], 0⟩, ⟨tg1, iter1, [], 0⟩, ⟨tg2, iter2, [], 0⟩] scope pos) 1 iter1 D env) hc hN i1 ok hs (fun D env => ⟨fun it => by rfl⟩) (fun s H C cl fp => (hg s H C cl fp).uni) (fun D s H C cl fp => pr_step (vsr := vs2) cle_list hc rfl rfl ⟨fun it => by rfl⟩ (hs1 _) (hi1 s H C cl fp).uni (hg1 s H C cl fp).uni (pr_step cle_list hc rfl rfl ⟨fun it => by rfl⟩ (hs2 _) (hi2 s H C cl fp).uni (hg2 s H C cl fp).uni (pr_leaf rfl (he s H C cl fp).uni) (fun _ z => nomatch z)) fun _ z => List.mem_append_right _ z) (fun j h => (List.mem_append.mp h).elim (hv j) (hv2 j)), lcN_sat3 i2 hsub hsub1 hsub2⟩
theorem pds_setLc3 (i : Nat) {y : Str} {py spos : Pos} {elt tg iter tg1 iter1 tg2 iter2 : Expr} {scope : Scope} {own : List (Str × Nat)} {vs1 vs2 : List Nat} {fi fi1 fi2 : Mo (List PyData)} {is is1 is2 : List Nat} {g g1 g2 : SV → Mo Unit} {te : Mo SV} (hc : X.calm = true) (hN : X.N.Nodup) (hy : X.N[i]? = some y) (hyl : X.env.scope.names.lookup y = some .local)
    (hsw : swapsWith (.ListComp elt [⟨tg, iter, [], 0⟩, ⟨tg1, iter1, [], 0⟩, ⟨tg2, iter2, [], 0⟩] scope pos) (some (.Name y py)) spos.line X.env = pure true) (hi : PDI X E tg iter fi) (ok : BlkOk X.N X.env.scope scope own)
    (hg : ∀ (s : Shared) (H : Hp) (C : Addr) (cl : List (Str × Addr)) (fp : List Addr), PDG (X.blk s H scope (compEnvC scope cl C X.env) fp) tg is g)
    (hi1 : ∀ (s : Shared) (H : Hp) (C : Addr) (cl : List (Str × Addr)) (fp : List Addr), PDI (X.blk s H scope (compEnvC scope cl C X.env) fp) E.no tg1 iter1 fi1)
    (hg1 : ∀ (s : Shared) (H : Hp) (C : Addr) (cl : List (Str × Addr)) (fp : List Addr), PDG (X.blk s H scope (compEnvC scope cl C X.env) fp) tg1 is1 g1)
    (hi2 : ∀ (s : Shared) (H : Hp) (C : Addr) (cl : List (Str × Addr)) (fp : List Addr), PDI (X.blk s H scope (compEnvC scope cl C X.env) fp) E.no tg2 iter2 fi2)
    (hg2 : ∀ (s : Shared) (H : Hp) (C : Addr) (cl : List (Str × Addr)) (fp : List Addr), PDG (X.blk s H scope (compEnvC scope cl C X.env) fp) tg2 is2 g2)
    (he : ∀ (s : Shared) (H : Hp) (C : Addr) (cl : List (Str × Addr)) (fp : List Addr), PDE (X.blk s H scope (compEnvC scope cl C X.env) fp) E.no elt te) (hsub : ∀ i ∈ is, i ∈ own.map (·.2) := by decide) (hsub1 : ∀ i ∈ is1, i ∈ vs1 := by decide) (hsub2 : ∀ i ∈ is2, i ∈ vs2 := by decide) (hv2 : ∀ i ∈ vs2, i ∈ own.map (·.2) := by decide) (hv : ∀ i ∈ vs1, i ∈ own.map (·.2) := by decide)
    (hs : ∀ x, foldedSetIterable iter X.env x = pure x := by intro _; rfl) (hs2 : ∀ env x, foldedSetIterable iter2 env x = pure x := by intro _ _; rfl) (hs1 : ∀ env x, foldedSetIterable iter1 env x = pure x := by intro _ _; rfl) :
    PDS X np E (.Assign [.Name y py] (.ListComp elt [⟨tg, iter, [], 0⟩, ⟨tg1, iter1, [], 0⟩, ⟨tg2, iter2, [], 0⟩] scope pos) spos) (setS i (lc3M (own.map (·.2)) vs1 vs2 fi g fi1 g1 fi2 g2 te)) := by
  obtain ⟨wi, i1, i2⟩ := hi
  refine ⟨_, ps_setLcN (g := tgOf X.K is g) (vsr := vs1 ++ vs2) (B := fun D => BS X.K E.no fi1 is1 (vs1 ++ vs2) g1 (BS X.K E.no fi2 is2 vs2 g2 (BL X.K E.no te D))) (rest := fun D env => stepR (.ListComp elt [⟨tg, iter, [], 0⟩, ⟨tg1, iter1, [], 0⟩, ⟨tg2, iter2, [], 0⟩] scope pos) 1 iter1 D env) hc hN hy hyl hsw i1 ok hs (fun D env => ⟨fun it => by rfl⟩) (fun s H C cl fp => (hg s H C cl fp).uni) (fun D s H C cl fp => pr_step (vsr := vs2) cle_list hc rfl rfl ⟨fun it => by rfl⟩ (hs1 _) (hi1 s H C cl fp).uni (hg1 s H C cl fp).uni (pr_step cle_list hc rfl rfl ⟨fun it => by rfl⟩ (hs2 _) (hi2 s H C cl fp).uni (hg2 s H C cl fp).uni (pr_leaf rfl (he s H C cl fp).uni) (fun _ z => nomatch z)) fun _ z => List.mem_append_right _ z) (fun j h => (List.mem_append.mp h).elim (hv j) (hv2 j)), fun T O M env σ H D o hK hP r e p => ?_⟩
  refine (lcN_sat3 i2 hsub hsub1 hsub2).within (Q := fun x H1 => gName i x σ H1 D.nx) hK r e p fun x e1 v H' ek r' p' rp s => ?_
  rcases withE_split ek with ⟨C, fs, z, _⟩ | ⟨_, e2, q1, q2⟩
  · exact absurd z (setM_no _ _ _ _ _)
  · cases q2
    obtain ⟨w1, w2, w3⟩ := setM_some q1
    cases w3
    exact p' O M _ H' (r'.setv w1 rp) (Same.refl _)
end
end Pd
end
section
set_option Elab.async false
set_option linter.all false
set_option maxRecDepth 100000
set_option maxHeartbeats 4000000
/-! ### sorted tuples of ints -/
namespace SrtT
open PySem PySem.W PySem.Calls PyProof.Rows Builtin SrtO
/-- v is a tuple of these numbers -/
def IsTi (h : Heap) (v : Value) (ns : List Int) : Prop := ∃ (a : Addr) (o : Obj) (items : Array Value) (n : Nat), v = .ref a ∧ h.get? a = some o ∧ o.cls = .type "tuple" ∧ o.data = .seq items n ∧ IntsAre items.toList ns
theorem IsTi.keeps {h h' : Heap} {v : Value} {ns : List Int} (x : IsTi h v ns) (k : ∀ b o, v = .ref b → h.get? b = some o → o.cls = .type "tuple" → h'.get? b = some o) : IsTi h' v ns := by
  obtain ⟨a, o, items, n, e, g, c, d, i⟩ := x
  exact ⟨a, o, items, n, e, k a o e g c, c, d, i⟩
section
variable {prog : Program} {w : World} {A : Around} {E : Value → Shared → Prop} {s : Shared}
theorem lex_pairs {b : Bool} {Q : Bool → Shared → Prop} : ∀ {vs us : List Value} {ns ms : List Int} {i : Nat} {fin : Bool}, IntsAre vs ns → IntsAre us ms →
    (fin = HT.lexLt (ns.drop (min ns.length ms.length)) (ms.drop (min ns.length ms.length))) → Q (HT.lexLt ns ms) s → KatLex prog w A b fin Q (vs.zip us) i s
  | [], us, ns, ms, i, fin, hv, hu, hf, hq => by
    cases hv
    rw [List.zip_nil_left]
    simp only [List.length_nil, Nat.zero_min, List.drop_zero] at hf
    exact kat_nil (by rw [hf]; exact hq)
  | v :: vs, [], ns, ms, i, fin, hv, hu, hf, hq => by
    cases hu
    rw [List.zip_nil_right]
    simp only [List.length_nil, Nat.min_zero, List.drop_zero] at hf
    exact kat_nil (by rw [hf]; exact hq)
  | _ :: vs, _ :: us, _, _, i, fin, .cons (ns := ns) x t hv, .cons (ns := ms) y u hu, hf, hq => by
    rw [List.zip_cons_cons]
    simp only [List.length_cons, Nat.succ_min_succ, List.drop_succ_cons] at hf
    rw [HT.lexLt_cons] at hq
    refine kat_cons (SeqAt.EqAt.int_int x t y u prog w _ _ (kat_go (fun e1 => ?_) fun e1 => ?_))
    · have ex : x = y := by simpa using e1
      rw [if_pos ex] at hq
      exact kat_yes (lex_pairs hv hu hf hq)
    · have ex : ¬ x = y := by simpa using e1
      rw [if_neg ex] at hq
      cases q : (b && i == 0) with
      | true => exact kat_no (by rw [q]; exact oneLt_int hq)
      | false => exact kat_no (by rw [q]; exact kat_one _ _ (PyProof.Rows.lt_int (Q := PySem.W.BoolBack Q) hq))
theorem lex_end : ∀ (ns ms : List Int), HT.lexLt (ns.drop (min ns.length ms.length)) (ms.drop (min ns.length ms.length)) = decide (ns.length < ms.length)
  | [], [] => rfl
  | [], m :: ms => by simp [HT.lexLt_nil_cons]
  | n :: ns, [] => by simp [HT.lexLt_cons_nil]
  | n :: ns, m :: ms => by
    simp only [List.length_cons, Nat.succ_min_succ, List.drop_succ_cons, lex_end ns ms, Nat.add_lt_add_iff_right]
theorem ints_size {items : Array Value} {ns : List Int} (h : IntsAre items.toList ns) : items.size = ns.length := by rw [← h.length]; simp
theorem lt_kat {v u : Value} {ns ms : List Int} {b : Bool} {Q : Bool → Shared → Prop} (hv : IsTi s.heap v ns) (hw : IsTi s.heap u ms) (h : Q (HT.lexLt ns ms) s) : wpAny (model prog w) A (keyLt' (tuples' b) v u) Q E s := by
  obtain ⟨a, o, items, n, rfl, g, c, d, i⟩ := hv
  obtain ⟨a', o', items', n', rfl, g', c', d', i'⟩ := hw
  refine kat_lt g d g' d' (lex_pairs i i' ?_ h)
  rw [lex_end, ints_size i, ints_size i']
theorem call_lt2 {a a' : Addr} {dd dd' : Option Addr} {items items' : Array Value} {n n' : Nat} {sl sl' : Array (Option Value)} {ns ms : List Int} {Q : Value → Shared → Prop} (g : s.heap.get? a = some { cls := .type "tuple", dict := dd, data := .seq items n, slots := sl })
    (g' : s.heap.get? a' = some { cls := .type "tuple", dict := dd', data := .seq items' n', slots := sl' }) (i : IntsAre items.toList ns) (i' : IntsAre items'.toList ms) (h : Q (.bool (HT.lexLt ns ms)) s) : wpAny (model prog w) A (call (.builtin "tuple.__lt__") [.ref a, .ref a']) Q E s := by
  have ty : s.TypeIs (.ref a) "tuple" := ⟨_, g, rfl⟩
  refine wpAny_call (codeAny_call_builtin PySem.F.slot_tuple_lt.plain PySem.F.entry_tuple_lt (PySem.F.slot_tuple_lt.check (model prog w) _ _ _ (.ref a) [.ref a'] [] _ ty (PySem.F.args_tuple_lt_2 _ _) ?_))
  refine wpAny_mono (HT.tuple_lt_ints a a' items items' n n' dd dd' sl sl' ns ms i i' prog w _ (wants Q E) s ⟨g, g', h⟩) (fun fin s' q => ?_) fun _ _ z => z
  cases fin with
  | done f => exact q
  | again c => exact q
theorem lt_one {v u : Value} {ns ms : List Int} {Q : Bool → Shared → Prop} (hu : A.units < cLine) (hv : IsTi s.heap v ns) (hw : IsTi s.heap u ms) (h : Q (HT.lexLt ns ms) s) : wpAny (model prog w) A (keyLt' oneType' v u) Q E s := by
  obtain ⟨a, ⟨c, dd, da, sl⟩, items, n, rfl, g, hc, hd, i⟩ := hv
  obtain ⟨a', ⟨c', dd', da', sl'⟩, items', n', rfl, g', hc', hd', i'⟩ := hw
  simp only at hc hd hc' hd'
  subst hc hd hc' hd'
  have ty : s.TypeIs (.ref a) "tuple" := ⟨_, g, rfl⟩
  rw [keyLt'_oneType, oneLt'_eq]
  simp only [if_true]
  refine wpAny_bind (wpAny_cRoomFor hu ?_)
  refine wpAny_bind (wpAny_callSpecialIfBound?_slot ty PySem.F.slot_tuple_lt (call_lt2 g g' i i' ?_))
  exact wpAny_truthy_bool h
theorem swo_ti (k : Value → List Int) : Swo fun v u => HT.lexLt (k v) (k u) := NtL.swo_lexL k
theorem tups_of {h : Heap} : ∀ {vs : List Value} {k : Value → List Int}, (∀ v ∈ vs, IsTi h v (k v) ∧ k v ≠ []) → ∃ fs, KatTups h vs fs ∧ fs.length = vs.length ∧ ∀ f ∈ fs, ∃ x t, f = Value.int x t
  | [], _, _ => ⟨[], trivial, rfl, fun _ z => nomatch z⟩
  | v :: vs, k, hv => by
    obtain ⟨fs, h1, h2, h3⟩ := tups_of (vs := vs) (k := k) fun u hu => hv u (List.mem_cons_of_mem _ hu)
    obtain ⟨⟨a, o, items, n, rfl, g, c, d, i⟩, ne⟩ := hv v List.mem_cons_self
    cases q : items.toList with
    | nil =>
      rw [q] at i
      generalize k (.ref a) = kk at i ne
      cases i
      exact absurd rfl ne
    | cons f r =>
      rw [q] at i
      generalize k (.ref a) = kk at i ne
      cases i with
      | cons x t _ =>
        refine ⟨.int x t :: fs, KatTups.cons g c d ?_ h1, by simp [h2], fun f hf => ?_⟩
        · rw [← Array.getElem?_toList, q]; rfl
        · rcases List.mem_cons.mp hf with rfl | hf
          · exact ⟨x, t, rfl⟩
          · exact h3 f hf
theorem kind_one {vs : List Value} {k : Value → List Int} {Q : SortKind → Shared → Prop} (h2 : 2 ≤ vs.length) (hv : ∀ v ∈ vs, IsTi s.heap v (k v)) (h0 : ∃ v r, vs = v :: r ∧ k v = []) (h : Q oneType' s) : wpAny (model prog w) A (keyKind' vs.toArray) Q E s := by
  obtain ⟨v, r, rfl, k0⟩ := h0
  rw [keyKind'_eq, List.mapM_toArray, map_eq_pure_bind]
  have first : ∀ (l : List Value), (∀ u ∈ l, IsTi s.heap u (k u)) → ∀ {P : List (Option Value) → Shared → Prop}, (∀ fs, (∀ u r, l = u :: r → k u = [] → ∃ fr, fs = none :: fr) → P fs s) → wpAny (model prog w) A (l.mapM firstOfTuple') P E s := by
    intro l
    induction l with
    | nil => intro _ P hP; rw [List.mapM_nil]; exact wpAny_pure (hP [] fun _ _ z => nomatch z)
    | cons u r ih =>
      intro hl P hP
      obtain ⟨a, o, items, n, rfl, g, c, d, i⟩ := hl u List.mem_cons_self
      rw [List.mapM_cons]
      refine wpAny_bind ?_
      rw [kas_first_eq]
      refine wpAny_bind (Looks.here (show Looks _ s.heap (typeOf (.ref a)) o.cls from (Looks.ld g).andThen .now) ?_)
      rw [c, if_neg (by first | decide | simp)]
      refine wpAny_bind (listItems_at g d (wpAny_pure ?_))
      refine wpAny_bind (ih (fun u hu => hl u (List.mem_cons_of_mem _ hu)) fun fs _ => wpAny_pure (hP _ fun u' r' e ke => ?_))
      cases e
      rw [ke] at i
      have : items.size = 0 := by rw [ints_size i]; rfl
      exact ⟨fs, by rw [Array.getElem?_eq_none (by omega)]⟩
  refine wpAny_bind (wpAny_bind (first _ hv fun fs hfs => wpAny_pure ?_))
  obtain ⟨fr, rfl⟩ := hfs v r rfl k0
  rw [if_neg (by simp), if_neg (by simp)]
  rw [oneTypeOnly'_eq, List.mapM_toArray, map_eq_pure_bind]
  refine wpAny_bind (wpAny_bind (wpAny_bind (kas_mapM (r := .type "tuple") _ (fun u hu Q' hq => ?_) (wpAny_pure ?_))))
  · obtain ⟨a, o, items, n, rfl, g, c, d, i⟩ := hv u hu
    refine Looks.here (show Looks _ s.heap (typeOf (.ref a)) o.cls from (Looks.ld g).andThen .now) ?_
    rw [c]; exact hq
  · have all : ((List.map (fun _ => Value.type "tuple") (v :: r)).toArray.all fun x => x == Value.type "tuple") = true := by
      simp only [List.all_toArray, List.all_map, List.all_eq_true]
      intro _ _
      rfl
    have h0 : (List.map (fun _ => Value.type "tuple") (v :: r)).toArray[0]? = some (Value.type "tuple") := by simp
    rw [h0]
    simp only [all, if_true]
    exact wpAny_pure (wpAny_pure h)
theorem ti_sortable {a : Addr} {vs : List Value} {k : Value → List Int} (h2 : 2 ≤ vs.length) (hu : A.units < cLine) (hv : ∀ v ∈ vs, IsTi s.heap v (k v)) (hf : (∀ v ∈ vs, k v ≠ []) ∨ ∃ v r, vs = v :: r ∧ k v = []) (ha : ∀ o, s.heap.get? a = some o → o.cls ≠ .type "tuple") : SortableO prog w A s a vs fun v u => HT.lexLt (k v) (k u) := by
  intro h' keep
  have hv' : ∀ v ∈ vs, IsTi h' v (k v) := fun v hm => (hv v hm).keeps fun b o _ e c => keep b o (fun z => by subst z; exact ha o e c) e
  rcases hf with hf | hf
  · obtain ⟨fs, h3, h4, h5⟩ := tups_of fun v hm => ⟨hv' v hm, hf v hm⟩
    refine ⟨tuples' true, fun Q E hq => ?_, fun p q hp hq => lt_kat (s := { s with heap := h' }) (Q := fun r s' => s' = { s with heap := h' } ∧ r = HT.lexLt (k p.1) (k q.1)) (hv' _ hp) (hv' _ hq) ⟨rfl, rfl⟩⟩
    refine kat_kind (T := .type "int") h3 (by omega) (fun f hm => ?_) (by rfl) ?_
    · obtain ⟨x, t, rfl⟩ := h5 f hm
      exact Looks.now
    · have e : (Value.type "int" != Value.type "tuple") = true := by first | decide +kernel | rfl | decide
      rw [e]
      exact hq
  · exact ⟨oneType', fun Q E hq => kind_one (s := { s with heap := h' }) h2 hv' hf hq, fun p q hp hq => lt_one (s := { s with heap := h' }) (Q := fun r s' => s' = { s with heap := h' } ∧ r = HT.lexLt (k p.1) (k q.1)) hu (hv' _ hp) (hv' _ hq) ⟨rfl, rfl⟩⟩
end
end SrtT
namespace Pd
open PySem PySem.Spec PyProof.Rows L2
/-- sorted(xs), xs a list of tuples of ints -/
def rSortTi (K : PySem.W.Frag) : List V → Hp → VK → Prop := fun vs H Q => ∃ (a : Addr) (xs : List V) (k : V → List Int), vs = [V.ref a] ∧ SqL K H a xs ∧ (∀ x ∈ xs, ∃ t, x = V.ref t ∧ SqT K H t ((k x).map V.int)) ∧ ((∀ x ∈ xs, k x ≠ []) ∨ ∃ x r, xs = x :: r ∧ k x = []) ∧
  ∀ ys p, SrtO.Srtd (fun v u => HT.lexLt (k v) (k u)) ys → ys.Perm xs → H p = none → Q (.ref p) (upd H p (.lst ys))
theorem ti_of {X : Cx} {pins : List (Addr × Obj)} {σ : L2.St} {H : Hp} {s : Shared} {t : Addr} {ns : List Int} (I : Inv X pins σ H s) (h : SqT X.K H t (ns.map V.int)) : SrtT.IsTi s.heap (.ref t) ns := by
  obtain ⟨its, r, ⟨o, g, c, n, d⟩, _⟩ := I.tuple h
  exact ⟨t, o, its.toArray, n, rfl, g, c, d, by simpa using r.ints⟩
theorem srtd_map' {k : V → List Int} : ∀ {us : List Value}, SrtO.Srtd (fun v u => HT.lexLt (k (backV v)) (k (backV u))) us → SrtO.Srtd (fun v u => HT.lexLt (k v) (k u)) (us.map backV) := by
  intro us h
  exact SrtO.srtd_map h
theorem cr_sortedTi {X : Cx} (hu : X.A.units + 64 < cLine) : CallR X (.builtin "sorted") (rSortTi X.K) := by
  intro pins s σ H vs us Q I r h
  obtain ⟨a, xs, k, rfl, hs, hx, hf, q⟩ := h
  obtain ⟨its, rv, hl, hz⟩ := I.list hs
  obtain ⟨u, rfl, ru⟩ := vals1 r
  obtain rfl : u = Value.ref a := ru
  obtain ⟨e1, e2⟩ := refs_back rv fun x m => by
    obtain ⟨t, e, _⟩ := hx x m
    exact ⟨t, e⟩
  have hv : ∀ v ∈ its, SrtT.IsTi s.heap v (k (backV v)) := fun v hv => by
    obtain ⟨t, rfl⟩ := e2 v hv
    obtain ⟨t', e, ht⟩ := hx (.ref t) (by rw [e1]; exact List.mem_map.mpr ⟨_, hv, rfl⟩)
    cases e
    exact ti_of I ht
  refine SrtO.sorted_ord (SrtT.swo_ti fun u => k (backV u)) hl.isList (by rw [← rv.length]; exact hz) (fun h2 h₁ b hb kk => ?_) fun out h1 h2 => ?_
  · refine SrtT.ti_sortable (s := { s with heap := h₁ }) h2 ?_ (fun v hm => (hv v hm).keeps fun b o _ e _ => (kk b o e).2) ?_ fun o e => ?_
    · show X.A.units + _ + _ < cLine; omega
    · rcases hf with hf | ⟨x, r, e, e0⟩
      · exact .inl fun v hm => hf (backV v) (by rw [e1]; exact List.mem_map.mpr ⟨_, hm, rfl⟩)
      · rw [e1] at e
        cases its with
        | nil => cases e
        | cons v r' => cases e; exact .inr ⟨v, r', rfl, e0⟩
    · have e' : some o = some (seqObj "list" its.toArray 0) := e.symm.trans hb
      cases e'
      intro c
      exact absurd (Value.type.inj c) (by decide)
  · have h3 : ∀ u ∈ out, ∃ a, u = Value.ref a := fun u hu => e2 u (h2.perm.mem_iff.mp hu)
    obtain ⟨ep, he'⟩ := PyProof.Rows.sortedAll_at s.heap its out.toArray
    have pm : (out.map backV).Perm xs := by rw [e1]; exact h2.perm.map _
    exact ⟨.ref _, upd H (s.heap.objs.size + 1) (.lst (out.map backV)), I.laid (t' := s.toks) (fun _ _ => PyProof.Rows.sortedAll_old) (Nat.le_succ _) ⟨by rw [pm.length_eq]; exact hz, out, ep, vals_back h3, he'⟩, rfl, q _ _ (srtd_map' h1) pm (I.hok.fresh (Nat.le_succ _))⟩
end Pd
end
section
set_option Elab.async false
set_option linter.all false
set_option maxRecDepth 100000
set_option maxHeartbeats 4000000
/-! ### sorted of a tuple -/
namespace SrtT
open PySem PySem.W PySem.Calls PyProof.Rows Builtin SrtO
section
variable {prog : Program} {w : World} {A : Around} {E : Value → Shared → Prop} {s : Shared}
theorem collect_tuple {l : Addr} {items : Array Value} {Q : List Value → Shared → Prop} (hl : IsTup s.heap l items) (hsz : items.size ≤ sizeLine)
    (h : Q items.toList { s with heap := (s.heap.push (seqObj "list" #[] 0)).update s.heap.objs.size (Obj.mapSeq (· ++ items)) }) : wpAny (model prog w) A (collect (.ref l)) Q E s := by
  obtain ⟨o, g, c, n, d⟩ := hl
  have fresh : (s.heap.push (seqObj "list" #[] 0)).get? s.heap.objs.size = some (seqObj "list" #[] 0) := Heap.get?_push_size _ rfl
  have g2 : (s.heap.push (seqObj "list" #[] 0)).get? l = some o := Heap.get?_push_of_some _ g
  unfold collect
  refine wpAny_bind (wpAny_runValue (codeAny_builtin entry_proto_collect' ?_))
  show wpAny _ _ (newList [] >>= fun fresh => again (.builtin "list.__iadd__" ⟨[fresh, .ref l], []⟩)) _ _ s
  refine wpAny_bind (wpAny_newList (wpAny_pure ⟨Code.quiet_builtin _ (by decide +kernel), codeAny_builtin entry_list_iadd' ?_⟩))
  show wpAny _ _ (Builtin.List.listExtendWith (.ref s.heap.objs.size) (.ref l) (.ref s.heap.objs.size)) _ _ { s with heap := s.heap.push (seqObj "list" #[] 0) }
  unfold Builtin.List.listExtendWith
  refine wpAny_bind (wpAny_typeOf (T := "tuple") ⟨o, g2, c⟩ ?_)
  have tt : (Value.type "tuple" == Value.type "tuple") = true := by rfl
  rw [if_pos (by rw [tt]; simp)]
  refine wpAny_bind (listItems_at g2 d (wpAny_bind (listItems_at fresh rfl ?_)))
  rw [if_neg (by simp)]
  refine wpAny_bind (listUpdate_at fresh rfl ?_ (Nat.zero_le _) (by show (#[] ++ items).size ≤ sizeLine + 1; rw [Array.size_append]; simp; omega))
  refine wpAny_pure (wpAny_bind (wpAny_load (get?_update_seq fresh _) ?_))
  show wpAny _ _ (pure ((#[] : Array Value) ++ items).toList) Q E _
  rw [show ((#[] : Array Value) ++ items).toList = items.toList by simp]
  exact wpAny_pure h
theorem sorted_tuple {l : Addr} {vs : List Value} {ltv : Value → Value → Bool} {Q : Value → Shared → Prop} (O : Swo ltv) (hl : IsTup s.heap l vs.toArray) (hz : vs.length ≤ sizeLine)
    (hS : 2 ≤ vs.length → ∀ (h₁ : Heap) (a : Addr), h₁.get? a = some (seqObj "list" vs.toArray 0) → (∀ b o, s.heap.get? b = some o → b ≠ a ∧ h₁.get? b = some o) → SortableO prog w A.in1.in1 { s with heap := h₁ } a vs ltv)
    (h : ∀ out : List Value, Srtd ltv out → Stb ltv out vs → Q (.ref (s.heap.objs.size + 1)) { s with heap := sortedAll s.heap vs out.toArray }) : wpAny (model prog w) A (call (.builtin "sorted") [.ref l]) Q E s := by
  refine Calls.call_function_entry kind_sorted plain_sorted entry_sorted (args_sorted1 _) ?_
  unfold Builtin.«sorted»
  refine wpAny_bind (m := checkCount "sorted" 1 1 _) (wpAny_pure (wpAny_bind (collect_tuple hl (by simpa using hz) ?_)))
  rw [show vs.toArray.toList = vs from rfl]
  refine wpAny_bind (wpAny_newList ?_ hz)
  have size1 : ((s.heap.push (seqObj "list" #[] 0)).update s.heap.objs.size (Obj.mapSeq (· ++ vs.toArray))).objs.size = s.heap.objs.size + 1 := by rw [Heap.size_update, size_push']
  have at1 : (((s.heap.push (seqObj "list" #[] 0)).update s.heap.objs.size (Obj.mapSeq (· ++ vs.toArray))).push (seqObj "list" vs.toArray 0)).get? (s.heap.objs.size + 1) = some (seqObj "list" vs.toArray 0) := by
    rw [← size1]; exact Heap.get?_push_size _ rfl
  have old : ∀ b o, s.heap.get? b = some o → b ≠ s.heap.objs.size + 1 ∧ (((s.heap.push (seqObj "list" #[] 0)).update s.heap.objs.size (Obj.mapSeq (· ++ vs.toArray))).push (seqObj "list" vs.toArray 0)).get? b = some o := fun b o q => by
    have lt : b < s.heap.objs.size := Heap.lt_size q
    exact ⟨Nat.ne_of_lt (Nat.lt_succ_of_lt lt), Heap.get?_push_of_some _ (by rw [Heap.get?_update_ne _ _ _ _ (Nat.ne_of_lt lt)]; exact Heap.get?_push_of_some _ q)⟩
  show wpAny _ _ _ _ _ { s with heap := ((s.heap.push (seqObj "list" #[] 0)).update s.heap.objs.size (Obj.mapSeq (· ++ vs.toArray))).push (seqObj "list" vs.toArray 0) }
  rw [size1]
  refine wpAny_bind (wpAny_holding (wpAny_call_entry slot_list_sort ⟨_, at1, rfl⟩ entry_list_sort (list_sort_ord O at1 hz (fun h2 => hS h2 _ _ at1 old) fun out hs hb => ⟨_, rfl, ?_⟩) (args_list_sort _)))
  exact wpAny_pure ⟨_, rfl, h out hs hb⟩
end
end SrtT
namespace Pd
open PySem PySem.Spec PyProof.Rows L2
def rSortTup (K : PySem.W.Frag) : List V → Hp → VK → Prop := fun vs H Q => ∃ (a : Addr) (ns : List Int), vs = [V.ref a] ∧ SqT K H a (ns.map V.int) ∧
  ∀ (ns' : List Int) (p : Addr), ns'.Perm ns → ns'.Pairwise (· ≤ ·) → H p = none → Q (.ref p) (upd H p (.lst (ns'.map V.int)))
theorem cr_sortedTup {X : Cx} : CallR X (.builtin "sorted") (rSortTup X.K) := by
  intro pins s σ H vs us Q I r h
  obtain ⟨a, ns, rfl, hs, q⟩ := h
  obtain ⟨its, rv, hl, hz⟩ := I.tuple hs
  rw [Vals.ref1 r]
  have hi := rv.ints
  refine SrtT.sorted_tuple SrtO.swo_int hl (by rw [← rv.length]; exact hz) (fun h2 _ _ _ _ => SrtO.ints_sortable hi h2) fun out h1 h2 => ?_
  obtain ⟨k1, k2, k3⟩ := SrtO.ints_out hi h1 h2
  obtain ⟨ep, at1⟩ := PyProof.Rows.sortedAll_at s.heap its out.toArray
  refine ⟨.ref _, upd H (s.heap.objs.size + 1) (.lst ((out.map SrtO.iv).map V.int)), I.laid (t' := s.toks) (fun _ _ => PyProof.Rows.sortedAll_old) (Nat.le_succ _) ⟨?_, out, ep, vals_of_ints k1, at1⟩, rfl, q _ _ k2 k3 (I.hok.fresh (Nat.le_succ _))⟩
  rw [List.length_map] at hz ⊢
  rw [k2.length_eq]; exact hz
def TiV (K : PySem.W.Frag) (H : Hp) (x : V) (ns : List Int) : Prop := ∃ t, x = V.ref t ∧ SqT K H t (ns.map V.int)
def rSortTz (K : PySem.W.Frag) : List V → Hp → VK → Prop := fun vs H Q => ∃ (a : Addr) (xs : List V) (l : List (List Int)), vs = [V.ref a] ∧ SqL K H a xs ∧ Paired (TiV K H) xs l ∧ ((∀ ns ∈ l, ns ≠ []) ∨ ∃ r, l = [] :: r) ∧
  ∀ (zs : List (V × List Int)) p, zs.Perm (xs.zip l) → (zs.map (·.2)).Pairwise (fun v u => HT.lexLt u v = false) → H p = none → Q (.ref p) (upd H p (.lst (zs.map (·.1))))
theorem int_map_inj : ∀ {ns ms : List Int}, ns.map V.int = ms.map V.int → ns = ms
  | [], [], _ => rfl
  | [], _ :: _, h => by cases h
  | _ :: _, [], h => by cases h
  | n :: ns, m :: ms, h => by
    rw [List.map_cons, List.map_cons] at h
    injection h with h1 h2
    injection h1 with h1
    rw [h1, int_map_inj h2]
open Classical in
theorem cr_sortedTz {X : Cx} (hu : X.A.units + 64 < cLine) : CallR X (.builtin "sorted") (rSortTz X.K) := by
  intro pins s σ H vs us Q I r h
  obtain ⟨a, xs, l, rfl, hs, hp, hf, q⟩ := h
  let k : V → List Int := fun x => if h : ∃ ns, TiV X.K H x ns then h.choose else []
  have hk : ∀ {x : V} {ns : List Int}, TiV X.K H x ns → k x = ns := fun {x ns} h => by
    obtain ⟨t, e, ht⟩ := h
    have ex : ∃ ns, TiV X.K H x ns := ⟨ns, t, e, ht⟩
    show (if h : ∃ ns, TiV X.K H x ns then h.choose else []) = ns
    rw [dif_pos ex]
    obtain ⟨t', e', ht'⟩ := ex.choose_spec
    rw [e] at e'
    cases e'
    exact int_map_inj (I.tuple_inj ht' ht)
  have hmem : ∀ {xs : List V} {l : List (List Int)}, Paired (TiV X.K H) xs l → (∀ x ∈ xs, TiV X.K H x (k x)) ∧ l = xs.map k ∧ xs.zip l = xs.map fun x => (x, k x) := by
    intro xs l h
    induction h with
    | nil => exact ⟨(fun _ z => nomatch z), rfl, rfl⟩
    | cons h1 _ ih =>
      obtain ⟨i1, i2, i3⟩ := ih
      refine ⟨fun x hx => ?_, by rw [List.map_cons, hk h1, ← i2], by rw [List.zip_cons_cons, List.map_cons, hk h1, i3]⟩
      rcases List.mem_cons.mp hx with rfl | hx
      · rw [hk h1]; exact h1
      · exact i1 x hx
  obtain ⟨m1, m2, m3⟩ := hmem hp
  refine cr_sortedTi hu pins s σ H _ us Q I r ⟨a, xs, k, rfl, hs, m1, ?_, fun ys p h1 h2 h3 => ?_⟩
  · rcases hf with hf | ⟨rr, e⟩
    · exact .inl fun x hx => hf (k x) (by rw [m2]; exact List.mem_map_of_mem hx)
    · cases xs with
      | nil => rw [e] at m2; cases m2
      | cons x r' =>
        rw [e, List.map_cons] at m2
        injection m2 with h1 h2
        exact .inr ⟨x, r', rfl, h1.symm⟩
  · have z := q (ys.map fun y => (y, k y)) p (by rw [m3]; exact h2.map _) ?_ h3
    · rw [List.map_map] at z
      have e : ys.map ((fun z : V × List Int => z.1) ∘ fun y => (y, k y)) = ys := by
        rw [show ((fun z : V × List Int => z.1) ∘ fun y => (y, k y)) = id from rfl, List.map_id]
      rw [e] at z
      exact z
    · rw [List.map_map, List.pairwise_map]
      exact h1
/-- sorted of ints in a list or a tuple, of tuples of ints in a list -/
def rSortA (K : PySem.W.Frag) : List V → Hp → VK → Prop := fun vs H Q => rSortedI K vs H Q ∨ rSortTup K vs H Q ∨ rSortTz K vs H Q
theorem cr_sortedA {X : Cx} (hu : X.A.units + 64 < cLine) : CallR X (.builtin "sorted") (rSortA X.K) := by
  intro pins s σ H vs us Q I r h
  rcases h with h | h | h
  · exact cr_sortedI pins s σ H vs us Q I r h
  · exact cr_sortedTup pins s σ H vs us Q I r h
  · exact cr_sortedTz hu pins s σ H vs us Q I r h
/-! the meaning -/
def insT (x : List Int) : List (List Int) → List (List Int)
  | [] => [x]
  | y :: r => if HT.lexLt y x = true then y :: insT x r else x :: y :: r
def sortT : List (List Int) → List (List Int)
  | [] => []
  | x :: r => insT x (sortT r)
def tupsOf : List PyData → Option (List (List Int))
  | [] => some []
  | .tuple ds :: r => (match intsOf ds, tupsOf r with
    | some ns, some l => some (ns :: l)
    | _, _ => none)
  | _ :: _ => none
def tupI (ns : List Int) : PyData := .tuple (ns.map .int)
def sortedD : List SV → Option SV
  | [.da (.list ds)] => (match intsOf ds with
    | some ns => some (.da (.list ((isort ns).map .int)))
    | none => (match tupsOf ds with
      | some l => if l.all (fun ns => !ns.isEmpty) = true ∨ (l.headD [0]).isEmpty = true then some (.da (.list ((sortT l).map tupI))) else none
      | none => none))
  | [.da (.tuple ds)] => (match intsOf ds with
    | some ns => some (.da (.list ((isort ns).map .int)))
    | none => none)
  | _ => none
theorem insT_perm (x : List Int) : ∀ l, (insT x l).Perm (x :: l)
  | [] => .refl _
  | y :: r => by
    unfold insT
    split
    · exact ((insT_perm x r).cons y).trans (.swap _ _ _)
    · exact .refl _
theorem sortT_perm : ∀ l, (sortT l).Perm l
  | [] => .refl _
  | x :: r => (insT_perm x _).trans ((sortT_perm r).cons x)
theorem insT_sorted (x : List Int) : ∀ {l : List (List Int)}, l.Pairwise (fun v u => HT.lexLt u v = false) → (insT x l).Pairwise fun v u => HT.lexLt u v = false
  | [], _ => List.pairwise_singleton _ _
  | y :: r, h => by
    unfold insT
    have h1 := List.pairwise_cons.mp h
    split
    · rename_i q
      refine List.pairwise_cons.mpr ⟨fun u hu => ?_, insT_sorted x h1.2⟩
      rcases List.mem_cons.mp ((insT_perm x r).mem_iff.mp hu) with rfl | hu
      · exact NtL.lex_asym _ _ q
      · exact h1.1 u hu
    · rename_i q
      have q : HT.lexLt y x = false := by simpa using q
      refine List.pairwise_cons.mpr ⟨fun u hu => ?_, h⟩
      rcases List.mem_cons.mp hu with rfl | hu
      · exact q
      · exact NtL.lex_tr _ _ _ q (h1.1 u hu)
theorem sortT_sorted : ∀ l, (sortT l).Pairwise fun v u => HT.lexLt u v = false
  | [] => .nil
  | x :: r => insT_sorted x (sortT_sorted r)
theorem lex_anti : ∀ {a b : List Int}, HT.lexLt b a = false → HT.lexLt a b = false → a = b
  | [], [], _, _ => rfl
  | [], b :: bs, _, h => by rw [HT.lexLt_nil_cons] at h; cases h
  | a :: as, [], h, _ => by rw [HT.lexLt_nil_cons] at h; cases h
  | a :: as, b :: bs, h1, h2 => by
    rw [HT.lexLt_cons] at h1 h2
    by_cases e : a = b
    · subst e
      rw [if_pos rfl] at h1 h2
      rw [lex_anti h1 h2]
    · rw [if_neg e] at h2
      rw [if_neg (Ne.symm e)] at h1
      have := of_decide_eq_false h1
      have := of_decide_eq_false h2
      omega
theorem sortT_uniq {a l : List (List Int)} (h : a.Perm l) (s : a.Pairwise fun v u => HT.lexLt u v = false) : a = sortT l :=
  List.Perm.eq_of_pairwise (le := fun v u => HT.lexLt u v = false) (fun x y _ _ h1 h2 => lex_anti h1 h2) s (sortT_sorted l) (h.trans (sortT_perm l).symm)
theorem tupsOf_some : ∀ {ds : List PyData} {l : List (List Int)}, tupsOf ds = some l → ds = l.map tupI
  | [], l, h => by cases h; rfl
  | d :: r, l, h => by
    cases d with
    | tuple ds =>
      unfold tupsOf at h
      split at h
      · rename_i ns l' q1 q2
        cases h
        rw [intsOf_some q1, tupsOf_some q2]; rfl
      · cases h
    | none => cases h
    | bool _ => cases h
    | int _ => cases h
    | str _ => cases h
    | list _ => cases h
    | dict _ => cases h
theorem dp_zip {K : PySem.W.Frag} {H : Hp} : ∀ {xs : List V} {l : List (List Int)}, DpAll K H xs (l.map tupI) → (∀ z ∈ xs.zip l, Dp K H z.1 (tupI z.2)) ∧ Paired (TiV K H) xs l ∧ xs.length = l.length
  | _, [], .nil => ⟨(fun _ z => nomatch z), .nil, rfl⟩
  | _, n :: l, .cons h t => by
    obtain ⟨h1, h2, h3⟩ := dp_zip t
    refine ⟨fun z hz => ?_, .cons ?_ h2, by simp [h3]⟩
    · rw [List.zip_cons_cons] at hz
      rcases List.mem_cons.mp hz with rfl | hz
      · exact h
      · exact h1 z hz
    · obtain ⟨t', xs', rfl, hs, ha⟩ := Dp.isTup h
      rw [DpAll.ints ha] at hs
      exact ⟨t', rfl, hs⟩
theorem dp_unzip {K : PySem.W.Frag} {H : Hp} : ∀ {zs : List (V × List Int)}, (∀ z ∈ zs, Dp K H z.1 (tupI z.2)) → DpAll K H (zs.map (·.1)) ((zs.map (·.2)).map tupI)
  | [], _ => .nil
  | z :: zs, h => .cons (h z List.mem_cons_self) (dp_unzip fun u hu => h u (List.mem_cons_of_mem _ hu))
theorem TiV.mono {K : PySem.W.Frag} {H H' : Hp} (e : Same H H') {x : V} {ns : List Int} (h : TiV K H x ns) : TiV K H' x ns := by
  obtain ⟨t, e1, h⟩ := h
  exact ⟨t, e1, Same.seqT e h⟩
theorem dp_ints (K : PySem.W.Frag) (H : Hp) : ∀ ns : List Int, DpAll K H (ns.map V.int) (ns.map .int)
  | [] => .nil
  | n :: ns => .cons (.int n) (dp_ints K H ns)
theorem cd_sortedA {X : Cx} (hu : X.A.units + 64 < cLine) : CallD X (.builtin "sorted") sortedD := by
  refine ⟨_, cr_sortedA hu, fun O H xs as c Q l r e q => ?_⟩
  unfold sortedD at e
  split at e
  · rename_i ds
    obtain ⟨x, rfl, rx⟩ := paired1 r
    obtain ⟨a, vs, rfl, hs, ha⟩ := Dp.isList rx
    split at e
    · rename_i ns hn
      cases e
      rw [intsOf_some hn] at ha
      rw [DpAll.ints ha] at hs
      refine .inl ⟨a, ns, rfl, cut_le.seq hs, fun ns' w hp hs' hw => ?_⟩
      rw [isort_uniq hp hs']
      exact q _ _ (same_upd hw) (rep_lst hw (l.new hw) (dp_ints _ _ _))
    · split at e
      · rename_i L hL
        split at e
        · rename_i hf
          cases e
          rw [tupsOf_some hL] at ha
          obtain ⟨d1, d2, d3⟩ := dp_zip ha
          refine .inr (.inr ⟨a, vs, L, rfl, cut_le.seq hs, Paired.mapP d2 fun _ _ h => TiV.mono cut_le h, ?_, fun zs w hp hs' hw => ?_⟩)
          · rcases hf with hf | hf
            · exact .inl fun ns hn z => by
                have := List.all_eq_true.mp hf ns hn
                rw [z] at this; cases this
            · cases L with
              | nil => cases hf
              | cons n r' =>
                refine .inr ⟨r', ?_⟩
                rw [show n = [] from List.isEmpty_iff.mp hf]
          · have pm : (zs.map (·.2)).Perm L := by
              have := hp.map (·.2)
              rwa [List.map_snd_zip (by omega)] at this
            refine q _ _ (same_upd hw) ?_
            rw [← sortT_uniq pm hs']
            exact rep_lst hw (l.new hw) (dp_unzip fun z hz => d1 z (hp.mem_iff.mp hz))
        · cases e
      · cases e
  · rename_i ds
    obtain ⟨x, rfl, rx⟩ := paired1 r
    obtain ⟨a, vs, rfl, hs, ha⟩ := Dp.isTup rx
    split at e
    · rename_i ns hn
      cases e
      rw [intsOf_some hn] at ha
      rw [DpAll.ints ha] at hs
      refine .inr (.inl ⟨a, ns, rfl, Same.seqT cut_le hs, fun ns' w hp hs' hw => ?_⟩)
      rw [isort_uniq hp hs']
      exact q _ _ (same_upd hw) (rep_lst hw (l.new hw) (dp_ints _ _ _))
    · cases e
  · cases e
end Pd
end
section
set_option Elab.async false
set_option linter.all false
set_option maxRecDepth 100000
set_option maxHeartbeats 4000000
namespace Pd
open PySem PySem.Spec PyProof.Rows L2
/-! ### len(dict([(i, x) for ..])) -/
def dst (ns : List Int) : List Int := ns.foldl (fun acc n => if acc.contains n = true then acc else acc ++ [n]) []
def fstInts : List PyData → Option (List Int)
  | [] => some []
  | .tuple [.int i, _] :: r => (fstInts r).map (i :: ·)
  | _ :: _ => none
def dictLenM (f : Mo SV) : Mo SV := bindM f fun x => liftO (match x with
  | .da (.list ds) => (fstInts ds).map fun ns => .da (.int (dst ns).length)
  | _ => none)
theorem fstInts_some {K : PySem.W.Frag} {H : Hp} : ∀ {ds : List PyData} {ns : List Int} {xs : List V}, fstInts ds = some ns → DpAll K H xs ds → ∃ (ps : List Addr) (vs : List V), xs = ps.map V.ref ∧ vs.length = ns.length ∧ Paired (fun p (kv : Key × V) => SqT K H p [kV kv.1, kv.2]) ps ((ns.map Sum.inl).zip vs)
  | [], ns, xs, h, r => by cases h; cases r; exact ⟨[], [], rfl, rfl, .nil⟩
  | d :: ds, ns, _, h, .cons (v := v) (vs := xs) r t => by
    unfold fstInts at h
    split at h
    · rename_i e; cases e
    · rename_i i y r' e
      injection e with e1 e2
      subst e1 e2
      cases q : fstInts ds with
      | none => rw [q] at h; cases h
      | some ms =>
        rw [q] at h; cases h
        obtain ⟨ps, vs, rfl, h2, h3⟩ := fstInts_some q t
        obtain ⟨a, ys, rfl, hs, ha⟩ := Dp.isTup r
        cases ha with
        | cons r1 ha =>
          cases ha with
          | cons r2 ha =>
            cases ha
            rw [Dp.isInt r1] at hs
            exact ⟨a :: ps, _ :: vs, rfl, by simp [h2], .cons hs h3⟩
    · cases h
theorem putK_in {kvs : List (Key × V)} {n : Int} {v : V} (h : (Sum.inl n : Key) ∈ kvs.map (·.1)) : (putK kvs (Sum.inl n : Key) v).map (·.1) = kvs.map (·.1) := by
  unfold putK
  obtain ⟨x, h1, h2⟩ := List.mem_map.mp h
  rw [if_pos (List.any_eq_true.mpr ⟨x, h1, decide_eq_true h2⟩), List.map_map]
  refine List.map_congr_left fun kv _ => ?_
  simp only [Function.comp_apply]
  split <;> rfl
theorem putK_out {kvs : List (Key × V)} {n : Int} {v : V} (h : (Sum.inl n : Key) ∉ kvs.map (·.1)) : (putK kvs (Sum.inl n : Key) v).map (·.1) = kvs.map (·.1) ++ [Sum.inl n] := by
  unfold putK
  rw [if_neg fun z => ?_, List.map_append]
  · rfl
  · obtain ⟨x, h1, h2⟩ := List.any_eq_true.mp z
    exact h (List.mem_map.mpr ⟨x, h1, of_decide_eq_true h2⟩)
theorem merge_keys : ∀ {ns : List Int} {vs : List V} (acc : List (Key × V)) (as : List Int), acc.map (·.1) = as.map Sum.inl → vs.length = ns.length →
    (((ns.map Sum.inl).zip vs).foldl (fun acc kv => putK acc kv.1 kv.2) acc).map (·.1) = (ns.foldl (fun acc n => if acc.contains n = true then acc else acc ++ [n]) as).map Sum.inl
  | [], _, acc, as, h, _ => by simpa using h
  | n :: ns, [], acc, as, h, e => by cases e
  | n :: ns, v :: vs, acc, as, h, e => by
    rw [List.map_cons, List.zip_cons_cons, List.foldl_cons, List.foldl_cons]
    refine merge_keys _ _ ?_ (by simpa using e)
    show (putK acc (Sum.inl n) v).map (·.1) = _
    by_cases c : n ∈ as
    · rw [if_pos (List.contains_iff_mem.mpr c), putK_in (by rw [h]; exact List.mem_map_of_mem c), h]
    · rw [if_neg fun z => c (List.contains_iff_mem.mp z), putK_out fun z => ?_, h, List.map_append]
      · rfl
      · rw [h] at z
        obtain ⟨x, h1, h2⟩ := List.mem_map.mp z
        cases h2
        exact c h1
section
variable {X : Cx} {E : Wish} {pos : Pos} {np : Nat}
theorem pd_dictlen {e : Expr} {p1 p2 p3 : Pos} {f : Mo SV} (hc : X.calm = true) (hgl : Gl X "len") (hml : X.mg "len" = none) (hgd : Gl X "dict") (hmd : X.mg "dict" = none) (h : PDE X E e f)
    (he : starEach [e] X.env = (false, eval e X.env) :: starEach [] X.env := by rfl) (hpl : (backTo p3 (starEach [] X.env)).any (·.1) = false := by rfl)
    (he2 : starEach [.Call (.Name "dict" p2) [e] [] p3] X.env = (false, eval (.Call (.Name "dict" p2) [e] [] p3) X.env) :: starEach [] X.env := by rfl) (hpl2 : (backTo pos (starEach [] X.env)).any (·.1) = false := by rfl) :
    PDE X E (.Call (.Name "len" p1) [.Call (.Name "dict" p2) [e] [] p3] [] pos) (dictLenM f) := by
  obtain ⟨t, h1, h2⟩ := h
  refine ⟨_, pe_callB call_lenD hgl hml PySem.boot_len (pa_cons (pe_callTy (call_dictP hc) hgd hmd PyProof.Rows.boot_dict (pa_cons h1 pa_nil he) (by decide) (by decide) he hpl) pa_nil he2) (by decide) (by decide) he2 hpl2, fun T O M env σ H Q o hK rr ee p => ?_⟩
  refine h2.bind (Q := fun x H1 => _) hK rr ee p.exc fun x e2 v H2 ek r2 f2 p2 => ?_
  obtain ⟨c, ec, rfl⟩ := lift_split ek
  split at ec
  · rename_i ds
    cases q : fstInts ds with
    | none => rw [q] at ec; cases ec
    | some ns =>
      rw [q] at ec; cases ec
      obtain ⟨a, xs, rfl, hs, ha⟩ := Dp.isList p2
      obtain ⟨ps, vs, rfl, hl, hp⟩ := fstInts_some q ha
      refine ⟨a, ps, _, rfl, by rw [← hK.eq]; exact cut_le.seq hs, Paired.mapP hp fun _ _ z => Same.seqT cut_le (by rw [← hK.eq]; exact z), fun b hb => ?_⟩
      refine ⟨b, _, rfl, upd_same, ?_⟩
      have e : (mergeK [] ((ns.map Sum.inl).zip vs)).length = (dst ns).length := by
        have z := congrArg List.length (merge_keys (ns := ns) (vs := vs) [] [] rfl hl)
        rw [List.length_map, List.length_map] at z
        exact z
      rw [e]
      exact p _ _ (r2.same (same_upd hb)) (f2.trans (Fr.of (same_upd hb))) (.int _)
  · cases ec
/-! ### len({e for x in t}) -/
def setR0 (elt : Expr) (D : Addr) (env : Env) : Sem Fin → Sem Fin := fun tail => (do let v ← eval elt env; standAt elt.pos; let _ ← call (.builtin "set.add") [.ref D, v]) >>= fun _ => tail
abbrev obSet : Addr → HO := fun _ => .set (fun _ => false) 0
theorem new_set {pins : List (Addr × Obj)} {σ : L2.St} (s2 : Shared) (H2 : Hp) (Q2 : Value → Shared → Prop) (I2 : Inv X pins σ H2 s2) (h : ∀ s3, Inv X pins σ (upd H2 s2.heap.objs.size (obSet s2.heap.objs.size)) s3 → (∀ b o, s2.heap.get? b = some o → s3.heap.get? b = some o) → s2.heap.objs.size < s3.heap.objs.size → Q2 (.ref s2.heap.objs.size) s3) : wpAny (model X.prog X.w) X.A (newSet (.type "set")) Q2 X.xe s2 := by
  have old : ∀ b o, s2.heap.get? b = some o → (s2.heap.push { cls := .type "set", dict := none, data := .set #[] 0 (.fresh 0 0 (!X.w.params.followText "set-order")) }).get? b = some o := fun b o e => Heap.get?_push_of_some _ e
  exact PpSet.newSet_ok (h _ (I2.laid (t' := s2.toks) old (Nat.le_refl _) (SetR.setOf (setR_fresh X.w))) old (by rw [Heap.size_push]; exact Nat.lt_succ_self _))
abbrev BSet (te : TE) (D : Addr) : L2.St → Hp → (Hp → Prop) → Prop := fun σ2 H3 Nx => te σ2 H3 fun y H7 => ∃ (k : Int) (S : Int → Bool) (n : Nat), y = .int k ∧ H7 D = some (.set S n) ∧ n + 1 < scanBound ∧ Nx (upd H7 D (.set (fun j => S j || decide (j = k)) (if S k = true then n else n + 1)))
theorem pr_set {elt : Expr} {te : TE} {D : Addr} (hx : X.xe = fun _ _ => False) (he : PE X elt te) : PR X [] (setR0 elt D X.env) (BSet te D) := by
  refine ⟨fun pins s σ H Nx tail Q EE I h hk => ?_⟩
  have z := he.run pins s σ H _ I h
  rw [hx] at z
  refine wpAny_bind (wpAny_bind (thnF z fun v s1 ⟨y, H1, I1, r1, k, S, n, ey, h1, h2, h3⟩ => wpAny_bind (wpAny_standAt (wpAny_bind ?_))))
  subst ey
  obtain ⟨t, rfl⟩ := (show ∃ t, v = Value.int k t from r1)
  refine call_set_add (intKind_is _ _ k t) rfl (I1.hok D _ h1) h2 fun h' sb new => wpAny_pure (hk _ _ (I1.write (e := D) (t' := s1.toks + 1) (by rw [h1]; trivial) (.inl rfl) (fun b u hb hu => (sb.2 b hb).trans hu) ?_ (show ObjOk X.prog X.w (upd H1 D (.set (fun j => S j || decide (j = k)) (if S k = true then n else n + 1))) h' D (.set (fun j => S j || decide (j = k)) (if S k = true then n else n + 1)) from new)) h3)
  obtain ⟨o, _, _, _, ho, _⟩ := new
  exact ⟨o, ho⟩
theorem pe_set {elt tg iter : Expr} {scope : Scope} {own : List (Str × Nat)} {p2 : Pos} {wi : TI} {g : TG} {te : TE} (hc : X.calm = true) (hN : X.N.Nodup) (hi : PI X tg iter wi) (ok : BlkOk X.N X.env.scope scope own)
    (hg : ∀ (s : Shared) (H : Hp) (C : Addr) (cl : List (Str × Addr)) (fp : List Addr), PG (X.blk s H scope (compEnvC scope cl C X.env) fp) tg g)
    (he : ∀ (s : Shared) (H : Hp) (C : Addr) (cl : List (Str × Addr)) (fp : List Addr), PE (X.blk s H scope (compEnvC scope cl C X.env) fp) elt te) (hs : ∀ x, foldedSetIterable iter X.env x = pure x) :
    PE X (.SetComp elt [⟨tg, iter, [], 0⟩] scope p2) (tLcN obSet wi g (own.map (·.2)) (BSet te)) := by
  refine ⟨fun pins s σ H Q I h => ?_⟩
  rw [PpSet.eval_SetComp]
  refine lcn_core (e := .SetComp elt [⟨tg, iter, [], 0⟩] scope p2) (vsr := []) (rest := fun D env => setR0 elt D env) cle_set rfl new_set hc hN I hi ok hs (fun D env => ⟨fun it => by rfl⟩) hg (fun D s H C cl fp => pr_set rfl (he s H C cl fp)) (fun _ z => nomatch z) h fun D C s' m H' I' q hn f => ⟨m, hn, fun h2 sb => ?_⟩
  obtain ⟨z0, z1, z2, z3, z4, z5⟩ := f
  exact ⟨.ref D, H', I'.turned (t' := s'.toks) (fun b o hb e => (sb.2 b hb).trans e) z0 z1 z3 z4 z5, rfl, q⟩
def rLenSet : List V → Hp → VK → Prop := fun xs H Q => ∃ (a : Addr) (S : Int → Bool) (n : Nat), xs = [V.ref a] ∧ H a = some (.set S n) ∧ n ≤ 1000 ∧ Q (.int n) H
theorem call_lenSet : CallR X (.builtin "len") rLenSet := by
  intro pins s σ H xs us Q I r h
  obtain ⟨a, S, n, rfl, ha, hn, q⟩ := h
  rw [Vals.ref1 r]
  obtain ⟨o, es, ep, t, ho, hex, hd, z1, z2, z3, z4, z5⟩ := (show s.heap.SetOf (intKind X.prog X.w) a S n from I.hok a _ ha)
  refine call_len_set ho hex hd z4 (by rw [z5]; omega) ⟨.int n, H, I.tok _, ⟨_, by rw [z5]⟩, q⟩
/-- the set of ints at D -/
def ARs (D : Addr) : Hp → List PyData → Prop := fun H acc => ∃ ns, acc = ns.map PyData.int ∧ H D = some (.set (fun j => decide (j ∈ ns)) (dst ns).length)
theorem ars_ok {O : List Addr} {D : Addr} : AccOk O D (ARs D) := ⟨fun H acc ⟨ns, _, h⟩ => ⟨_, h, (fun _ z => nomatch z), (fun _ z => nomatch z)⟩, fun H H' acc ⟨ns, e0, h⟩ e s => ⟨ns, e0, e.trans h⟩⟩
theorem dst_mem (ns : List Int) : ∀ (as : List Int) (j : Int), j ∈ ns.foldl (fun acc n => if acc.contains n = true then acc else acc ++ [n]) as ↔ j ∈ as ∨ j ∈ ns := by
  induction ns with
  | nil => intro as j; simp
  | cons n ns ih =>
    intro as j
    rw [List.foldl_cons, ih, List.mem_cons]
    split
    · rename_i h
      have := List.contains_iff_mem.mp h
      exact ⟨fun z => z.elim .inl fun z => .inr (.inr z), fun z => z.elim .inl fun z => z.elim (fun z => .inl (by rw [z]; exact this)) .inr⟩
    · rw [List.mem_append, List.mem_singleton]
      exact ⟨fun z => z.elim (fun z => z.elim .inl fun z => .inr (.inl z)) fun z => .inr (.inr z), fun z => z.elim (fun z => .inl (.inl z)) fun z => z.elim (fun z => .inl (.inr z)) .inr⟩
theorem dst_snoc (ns : List Int) (k : Int) : dst (ns ++ [k]) = if (dst ns).contains k = true then dst ns else dst ns ++ [k] := by
  unfold dst
  rw [List.foldl_append]
  rfl
def leafI (te : Mo SV) : Acc := fun acc env => if acc.length < 60 then (match te env with
  | some (.ok (.da (.int k)) e) => some (acc ++ [.int k], e)
  | _ => none) else none
theorem dst_le (ns : List Int) : (dst ns).length ≤ ns.length := by
  have go : ∀ (ns as : List Int), (ns.foldl (fun acc n => if acc.contains n = true then acc else acc ++ [n]) as).length ≤ as.length + ns.length := by
    intro ns
    induction ns with
    | nil => intro as; simp
    | cons n ns ih =>
      intro as
      rw [List.foldl_cons, List.length_cons]
      refine Nat.le_trans (ih _) ?_
      split
      · omega
      · rw [List.length_append]; simp; omega
  have z := go ns []
  rw [List.length_nil, Nat.zero_add] at z
  exact z
theorem leafI_ok {K : PySem.W.Frag} {T : Ent} {O M : List Addr} {D : Addr} {te : Mo SV} (hK : KT T K E) (A : At T O M D) : LvOk (ARs D) T O M D (leafI te) (BSet (tOf K E.no te) D) := by
  intro e2 e3 σ2 H3 acc acc' Nx h r ⟨ns, e0, hD⟩ fin
  unfold leafI at h
  split at h
  · rename_i hlt
    split at h
    · rename_i k e q
      cases h
      refine ⟨T, D :: O, M, e2, .ok (.da (.int k)) e3, hK.no, r, q, fun v H5 r5 f5 rp => ?_⟩
      have hD5 : H5 D = some (.set (fun j => decide (j ∈ ns)) (dst ns).length) := f5 _ _ hD A.m
      have hl : (dst ns).length < 60 := Nat.lt_of_le_of_lt (dst_le ns) (by rw [e0, List.length_map] at hlt; exact hlt)
      refine ⟨k, _, _, Dp.isInt rp, hD5, (by have : scanBound ≥ 100 := (by decide +kernel); omega), ?_⟩
      refine fin _ (r5.putO2 List.mem_cons_self A.m A.t ⟨fun ps z => (by rw [hD5] at z; cases z), fun φ z => (by rw [hD5] at z; cases z)⟩) ⟨ns ++ [k], by rw [e0, List.map_append]; rfl, ?_⟩ fun b o h n n2 => ?_
      · rw [upd_same, dst_snoc]
        have c : (dst ns).contains k = decide (k ∈ ns) := by
          refine Bool.eq_iff_iff.mpr ⟨fun h => decide_eq_true ?_, fun h => List.contains_iff_mem.mpr ?_⟩
          · exact ((dst_mem ns [] k).mp (List.contains_iff_mem.mp h)).resolve_left (fun z => nomatch z)
          · exact (dst_mem ns [] k).mpr (.inr (of_decide_eq_true h))
        rw [c]
        congr 2
        · funext j
          refine Bool.eq_iff_iff.mpr ?_
          simp
        · split <;> simp
      · rw [upd_ne n2]; exact f5 b o h n
    · cases h
  · cases h
def setLenM (vs : List Nat) (fi : Mo (List PyData)) (g : SV → Mo Unit) (te : Mo SV) : Mo SV := bindM (bindM fi fun ds => accA (lvGo vs g (leafI te) ds)) fun ys => liftO ((intsOf ys).bind fun ns => if ns.length ≤ 1000 then some (.da (.int (dst ns).length)) else none)
theorem pd_setlen {elt tg iter : Expr} {scope : Scope} {p1 p2 : Pos} {own : List (Str × Nat)} {fi : Mo (List PyData)} {is : List Nat} {g : SV → Mo Unit} {te : Mo SV} (hc : X.calm = true) (hN : X.N.Nodup) (hgl : Gl X "len") (hml : X.mg "len" = none) (hi : PDI X E tg iter fi) (ok : BlkOk X.N X.env.scope scope own)
    (hg : ∀ (s : Shared) (H : Hp) (C : Addr) (cl : List (Str × Addr)) (fp : List Addr), PDG (X.blk s H scope (compEnvC scope cl C X.env) fp) tg is g)
    (he : ∀ (s : Shared) (H : Hp) (C : Addr) (cl : List (Str × Addr)) (fp : List Addr), PDE (X.blk s H scope (compEnvC scope cl C X.env) fp) E.no elt te) (hsub : ∀ i ∈ is, i ∈ own.map (·.2) := by decide) (hs : ∀ x, foldedSetIterable iter X.env x = pure x := by intro _; rfl)
    (he2 : starEach [.SetComp elt [⟨tg, iter, [], 0⟩] scope p2] X.env = (false, eval (.SetComp elt [⟨tg, iter, [], 0⟩] scope p2) X.env) :: starEach [] X.env := by rfl) (hpl2 : (backTo pos (starEach [] X.env)).any (·.1) = false := by rfl) :
    PDE X E (.Call (.Name "len" p1) [.SetComp elt [⟨tg, iter, [], 0⟩] scope p2] [] pos) (setLenM (own.map (·.2)) fi g te) := by
  obtain ⟨wi, i1, i2⟩ := hi
  refine ⟨_, pe_callB call_lenSet hgl hml PySem.boot_len (pa_cons (pe_set (g := tgOf X.K is g) (te := tOf X.K E.no te) hc hN i1 ok (fun s H C cl fp => (hg s H C cl fp).uni) (fun s H C cl fp => (he s H C cl fp).uni) hs) pa_nil he2) (by decide) (by decide) he2 hpl2, fun T O M env σ H Q o hK rr ee p => ?_⟩
  have fin : ∀ (Q2 : VK), (∀ D H', Q2 D H' = rLenSet [D] H' Q) → tLcN obSet wi (tgOf X.K is g) (own.map (·.2)) (BSet (tOf X.K E.no te)) σ H Q2 := by
    intro Q2 hQ2
    rcases bind_split ee with ⟨C, fs, h1, rfl⟩ | ⟨ys, e1, h1, h2⟩
    · exact top_gen (ob := obSet) (fun _ _ D => ARs D) (fun _ _ _ => ars_ok) (fun _ _ D H => ⟨[], rfl, by rw [upd_same]; rfl⟩) i2 hsub (fun T O M D hK A hM => leafI_ok hK A) T O M env σ H Q2 (.exc C fs) hK rr h1 p
    · refine top_gen (ob := obSet) (fun _ _ D => ARs D) (fun _ _ _ => ars_ok) (fun _ _ D H => ⟨[], rfl, by rw [upd_same]; rfl⟩) i2 hsub (fun T O M D hK A hM => leafI_ok hK A) T O M env σ H Q2 (.ok ys e1) hK rr h1 ?_
      intro D H' r' f' hDO ⟨ns, e0, hD⟩
      rw [hQ2]
      obtain ⟨c, ec, rfl⟩ := lift_split h2
      rw [e0, intsOf_map, Option.bind_some] at ec
      split at ec
      · rename_i hl
        cases ec
        exact ⟨D, _, _, rfl, hD, Nat.le_trans (dst_le ns) hl, p _ H' r' f' (.int _)⟩
      · cases ec
  exact fin _ fun _ _ => rfl
end
end Pd
end
section
set_option Elab.async false
set_option linter.all false
set_option maxRecDepth 100000
set_option maxHeartbeats 4000000
namespace Pd
open PySem PySem.Spec PyProof.Rows L2
/-! ### short names of what operators and calls do -/
abbrev subD := Pd.intD (fun _ _ => true) fun i j => .int (i - j)
abbrev mulD := Pd.intD mulOk fun i j => .int (i * j)
abbrev divD := Pd.intD divOk fun i j => .int (i / j)
abbrev modD := Pd.intD modOk fun i j => .int (i % j)
abbrev powD := Pd.intD powOk fun i j => .int (i ^ j.toNat)
abbrev ltD := Pd.intD (fun _ _ => true) fun i j => .bool (decide (i < j))
abbrev leD := Pd.intD (fun _ _ => true) fun i j => .bool (decide (i ≤ j))
abbrev gtD := Pd.intD (fun _ _ => true) fun i j => .bool (decide (j < i))
abbrev geD := Pd.intD (fun _ _ => true) fun i j => .bool (decide (j ≤ i))
abbrev isD : SV → SV → Option SV := fun a b => if isNone b = true then some (.da (.bool (isNone a))) else none
abbrev isNotD : SV → SV → Option SV := fun a b => if isNone b = true then some (.da (.bool (!isNone a))) else none
abbrev sumD := lintD fun ns => some (.int ns.sum)
abbrev minD1 := lintD fun ns => (minL ns).map .int
abbrev min2D := minmaxD fun i j => if j < i then j else i
abbrev max2D := minmaxD fun i j => if j > i then j else i
/-- an own class of exceptions that is made of one text -/
structure RaiC (K : PySem.W.Frag) (C : Addr) : Prop where
  ex : ∃ (B newId initId : String) (bmB : List Value), ExcBaseFacts B newId initId bmB ∧ PySem.W.excIn K C bmB newId = true
  kC : PySem.W.keepIn K (.ref C) = true
  sub : PySem.W.subIn K (.ref C) (.type "BaseException") = some true
  ty : PySem.W.typeIn K (.ref C) = some (.type "type")
structure TkW (X : Cx) (E : Wish) : Prop where
  p : Takes X fun cls d _ H => E.xk cls d H
theorem tkE {P : Program} {w : World} {K : PySem.W.Frag} {mg : Str → Option Value} {base : Heap} {N : List Str} {qual : Str} {sc : Scope} {f : Addr} {cdv : Value} {A : Around} {outer : List Env} {s : Shared} {H : Hp} {E : XK} {tbs : List (Addr × Str)} :
    TkW (cxOf (L2.CX P w) P w K mg base N qual sc f cdv A outer s H E) ⟨E, tbs⟩ := ⟨takes_of rfl rfl rfl rfl⟩
section
variable {X : Cx} {E : Wish} {pos : Pos} {np : Nat}
def retNS : MoS := fun env => some (.ret (.da .none) env)
theorem pds_retN : PDS X np E (.Return none pos) retNS := ⟨_, ps_retN, fun T O M env σ H D o hK hP r e p => by cases e; exact p O M σ H .non r (Same.refl _) .non⟩
def idxM (f : Mo SV) : Mo (List (Str × PyData)) := Pd.bindM f fun x => liftO (match x with
  | .da d => some [("index", d)]
  | _ => none)
def raise0S (C : Addr) : MoS := fun _ => some (.exc C [])
theorem pds_raise0 {C : Addr} {x m : Str} {j} {p p2 p3 : Pos} (tk : TkW X E) (hc : X.calm = true) (hg : Gl X x) (gC : X.mg x = some (.ref C)) (h : RaiC X.K C) (hdb : (x == ("__debug__" : Str)) = false := by decide) :
    PDS X np E (.Raise (some (.Call (.Name x p) [.Constant (.str m) j p2] [] p3)) none pos) (raise0S C) := by
  obtain ⟨⟨B, newId, initId, bmB, F, q⟩, kC, sub, ty⟩ := h
  refine ⟨_, ps_raise hc tk.p (pmk_own F q gC kC (raises_own sub ty) hg hdb), fun T O M env σ H D o hK hP r e p => ?_⟩
  cases e
  exact p none H (r.frT Fr.refl) r.tabs (.inl ⟨rfl, rfl⟩)
/-- Cluster(rooms, sizes, zones, far, alive, apart), all as they must be -/
def numOk (lo hi : Int) : PyData → Bool
  | .int i => decide (lo ≤ i ∧ i ≤ hi)
  | _ => false
def F_Cluster : List SV → Option (List (Str × PyData))
  | [.da (.tuple rs), .da (.tuple ss), .da (.tuple zs), .da far, .da alive, .da (.bool apart)] =>
    if (rs.all (numOk 1 6) && decide (2 ≤ rs.length ∧ rs.length ≤ 4) && ss.all (numOk 1 3) && decide (1 ≤ ss.length ∧ ss.length ≤ 4) && zs.all (numOk 0 3) && decide (zs.length = rs.length) && numOk 1 3 far && numOk 1 2 alive) = true then
      some [("_rooms", .tuple rs), ("_sizes", .tuple ss), ("_zones", .tuple zs), ("_far", far), ("_alive", alive), ("_apart", .bool apart)] else none
  | _ => none
def parOS (i j l : Nat) (f : Mo SV) : MoS := withE f fun x => withE (setM i x) fun _ env => if (isOwn env j || isOwn env l || decide (j = l)) = true then none else some (.nx ((env.set j (some (.own []))).set l (some (.own []))))
theorem pds_parO {i j l : Nat} {a : Expr} {pb pc : Pos} {st : Stmt} {f : Mo SV} (h : PDE X E a f) (mk : ∀ t, PA X [a, .List [] pb, .List [] pc] t → PS X st (tPar3 i j l t))
    (h1 : starEach [a, .List [] pb, .List [] pc] X.env = (false, eval a X.env) :: starEach [.List [] pb, .List [] pc] X.env := by rfl) (h2 : starEach [.List [] pb, .List [] pc] X.env = (false, eval (.List [] pb) X.env) :: starEach [.List [] pc] X.env := by rfl) (h3 : starEach [.List [] pc] X.env = (false, eval (.List [] pc) X.env) :: starEach [] X.env := by rfl) :
    PDS X np E st (parOS i j l f) := by
  obtain ⟨t, q1, q2⟩ := h
  refine ⟨_, mk _ (pa_cons q1 (pa_cons (pe_lst pa_nil) (pa_cons (pe_lst pa_nil) pa_nil h3) h2) h1), fun T O M env σ H D o hK hP r e p => ?_⟩
  refine q2.within (Q := fun u H1 => (tCons (tLst tNil) (tCons (tLst tNil) tNil)) σ H1 fun us H2 => ∃ x v w, u :: us = [x, v, w] ∧ D.nx (((σ.set i (some x)).set j (some v)).set l (some w)) H2) hK r e p fun x e1 v H' ek r' p' rp s => ?_
  rcases withE_split ek with ⟨C, fs, z, _⟩ | ⟨_, e2, w1, w2⟩
  · exact absurd z (setM_no _ _ _ _ _)
  split at w2
  · cases w2
  rename_i hno
  cases w2
  obtain ⟨u1, u2, u3⟩ := setM_some w1
  cases u3
  have hj : isOwn (e1.set i (some x)) j = false := by cases q : isOwn (e1.set i (some x)) j with | false => rfl | true => exact absurd (by rw [q]; rfl) hno
  have hl : isOwn (e1.set i (some x)) l = false := by cases q : isOwn (e1.set i (some x)) l with | false => rfl | true => exact absurd (by rw [q]; simp) hno
  have hjl : j ≠ l := fun z => hno (by simp [z])
  refine ⟨le1000 (by simp), fun p1 hp1 => ⟨le1000 (by simp), fun p2 hp2 => ?_⟩⟩
  refine ⟨v, .ref p1, .ref p2, rfl, ?_⟩
  have r2 := r'.setv (v := v) u1 rp
  have r3 := r2.newOwn hj hp1 .nil
  have hl' : isOwn ((e1.set i (some x)).set j (some (.own []))) l = false := by
    unfold isOwn at hl ⊢
    rw [List.getElem?_set_ne hjl]; exact hl
  have r4 := r3.newOwn hl' hp2 .nil
  refine p' _ _ _ _ r4 ?_
  refine Same.trans (H1 := cut (p1 :: O) (upd H' p1 (.lst []))) (cut_same (fun b x e _ => same_upd hp1 b x e) fun b x e z => ?_) (cut_same (fun b x e _ => same_upd hp2 b x e) fun b x e z => ?_)
  · rcases List.mem_cons.mp z with rfl | z
    · rw [hp1] at e; cases e
    · exact z
  · rcases List.mem_cons.mp z with rfl | z
    · rw [hp2] at e; cases e
    · exact z
end
theorem nilG_no : ∀ ds env C fs, nilG ds env ≠ some (.exc C fs) := fun ds env C fs z => by
  unfold nilG at z
  split at z <;> cases z
theorem consG_no {g : SV → Mo Unit} {gs : List PyData → Mo Unit} (h1 : ∀ d env C fs, g d env ≠ some (.exc C fs)) (h2 : ∀ ds env C fs, gs ds env ≠ some (.exc C fs)) : ∀ ds env C fs, consG g gs ds env ≠ some (.exc C fs) := fun ds env C fs z => by
  cases ds with
  | nil => cases z
  | cons d ds =>
    rcases bind_split z with ⟨C', fs', q, _⟩ | ⟨a, e, _, q⟩
    · exact h1 _ _ _ _ q
    · exact h2 _ _ _ _ q
theorem tupG_no {n : Nat} {gs : List PyData → Mo Unit} (h2 : ∀ ds env C fs, gs ds env ≠ some (.exc C fs)) : ∀ d env C fs, tupG n gs d env ≠ some (.exc C fs) := fun d env C fs z => by
  unfold tupG at z
  split at z
  · split at z
    · exact h2 _ _ _ _ z
    · cases z
  · cases z
end Pd
end
section
set_option Elab.async false
set_option linter.all false
set_option maxRecDepth 100000
set_option maxHeartbeats 4000000
namespace Pd
open PySem PySem.Spec PyProof.Rows L2
section
variable {X : Cx} {E : Wish} {pos : Pos}
/-- a check that lets its caller pass, ahead of what follows: slots and owned lists stay as they are -/
theorem pss_check {c : Expr} {b rest : List Stmt} {f : Mo Bool} {t : TS} (h : PDT X E c f) (hr : PSs X rest t) : ∃ t', PSs X (.If c b [] pos :: rest) t' ∧
    ∀ (T : Ent) (O M : List Addr) (env : PEnv) (σ : L2.St) (H : Hp) (D : Ends), KT T X.K E → R T O M env σ H → f env = some (.ok false env) → (∀ H', R T O M env σ H' → Fr M H H' → t D σ H') → t' D σ H := by
  obtain ⟨u, h1, h2⟩ := h
  refine ⟨_, pss_cons (ps_if h1 pss_never pss_nil) hr, fun T O M env σ H D hK r e k => ?_⟩
  refine h2 T O M env σ H _ (.ok false env) hK r e fun H' r' f' => ?_
  rw [if_neg (by decide)]
  exact k H' r' f'
end
end Pd
end
section
set_option Elab.async false
set_option linter.all false
set_option maxRecDepth 100000
set_option maxHeartbeats 4000000
namespace Pd
open PySem PySem.Spec PyProof.Rows L2
/-- in a lambda's body a call's exception passes as the def's wish says -/
theorem passL {P : Program} {w : World} {K : PySem.W.Frag} {mg : Str → Option Value} {base : Heap} {N : List Str} {qual : Str} {sc : Scope} {fa : Addr} {cdv : Value} {A0 : Around} {outer0 : List Env} {s0 : Shared} {H0 : Hp} {E0' : XK} {A : Around} {outer : List Env} {s : Shared} {H : Hp} {E : XK} {scope : Scope} {f c' : Addr} {tbs : List (Addr × Str)} :
    PasW (LamX.lamCx (cxOf (L2.CX P w) P w K mg base N qual sc fa cdv A0 outer0 s0 H0 E0') A outer s H E scope f c') ⟨E, tbs⟩ := ⟨passes_call (takes_of rfl rfl rfl rfl) fun _ _ _ _ h => h⟩
/-- a def of two parameters that calls the first: the lambda, a text -/
def Gives2 (X : Cx) (Ng : List Str) (x : Str) (sg : Scope) (g : Addr) (cdg : Value) (bg : List Stmt) (a q word : Str) (TT : (XK → Hp → VK → Prop) → Hp → VK → Prop) : Prop :=
  ∀ (f c' : Addr) (s : Shared) (H : Hp) (Q : VK) (tl : XK → Hp → VK → Prop),
    (∀ (W : WX) (pn : List (Addr × Obj)) (xe : Value → Shared → Prop) (E : XK) (p1 p2 : Pos), Takes ((cxOf C8.CX0 X.prog X.w X.K X.mg X.base Ng x sg g cdg X.A X.stack s H C8.E0).tr pn xe) W → (∀ cls d σ' H', E cls d H' → W cls d σ' H') →
      PE ((cxOf C8.CX0 X.prog X.w X.K X.mg X.base Ng x sg g cdg X.A X.stack s H C8.E0).tr pn xe) (.Call (.Name a p1) [] [] p2) (fun σZ HZ Q => σZ[0]? = some (some (.ref f)) ∧ HZ c' = some (LamX.CodeO c' q) ∧ tl E HZ Q)) →
    H c' = some (LamX.CodeO c' q) → TT tl H Q →
    ∃ t, PSs (cxOf C8.CX0 X.prog X.w X.K X.mg X.base Ng x sg g cdg X.A X.stack s H C8.E0).nox bg t ∧ t { nx := fun _ H' => Q .non H', rt := Q } (L2.start Ng [.ref f, .str word]) H
section
variable {X : Cx}
/-- x(lambda: body, 'word') -/
theorem pe_lamcall2 {T : List (Addr × Str)} {TT : (XK → Hp → VK → Prop) → Hp → VK → Prop} {x a b word : Str} {g c P : Addr} {k : Nat} {pg : Arguments} {bg : List Stmt} {sg : Scope} {dV kV doc pm cdv ct oc : Value} {an od : Option Addr} {osl : Array (Option Value)} {Ng : List Str}
    {params : Arguments} {body : Expr} {scope : Scope} {t : XK → TE} {p lpos wpos pos : Pos} {j} (hg : Gl X x) (hm : X.mg x = some (.ref g)) (hk : PySem.W.keepIn X.K (.ref g) = true)
    (lk : X.K.lookup g = some ⟨oc, od, .func (PySem.W.fnOf x x pg bg sg dV kV doc pm an cdv ct), osl⟩) (hcg : PySem.W.codeIn X.K cdv x = true) (hb : L2.Binds X.K (PySem.W.fnOf x x pg bg sg dV kV doc pm an cdv ct) [a, b] []) (Sg : FnScope Ng [a, b] sg) (hNg : Ng[0]? = some a) (hva : Vis sg a)
    (hG : Gives2 X Ng x sg g cdv bg a (X.env.qual ++ "<lambda>") word TT)
    (TB : LamX.TabB X.base X.mg c P) (hcode : X.env.code = .ref c) (hmT : (P, X.env.qual ++ "<lambda>") ∈ T) (hu : ∀ p ∈ T, p.1 = P → p.2 = X.env.qual ++ "<lambda>") (hr : Room (k + 2) X.A) (L : LamX.LamS X.env.scope scope) (hdef : defaultsOf params X.env = ([], []))
    (hbind : ∀ (q : Str) (cl : List (Str × Addr)) (pm cv ctv : Value), bindArgs (PySem.W.kla_fn "<lambda>" q params body scope cl pm cv ctv) ⟨[], []⟩ = pure [])
    (hbody : ∀ (A : Around) (outer : List Env) (s : Shared) (H : Hp) (E : XK) (f c' : Addr), Room k (A.deeper (LamX.lamEnv X scope s.heap.objs.size f c')) → PE (LamX.lamCx X A outer s H E scope f c') body (t E))
    (hdb : (x == ("__debug__" : Str)) = false := by decide) (hd : (a == ("__debug__" : Str)) = false := by decide) (hcd : (a == ("__classdict__" : Str)) = false := by decide) :
    PE X (.Call (.Name x p) [.Lambda params body scope lpos, .Constant (.str word) j wpos] [] pos) (LamX.tLam T TT t) := by
  refine ⟨fun pins s σ H Q I h => ?_⟩
  obtain ⟨hT, h⟩ := h
  refine wpAny_Call_Name_kw (ld_glob I hg hm ?_ hdb)
  refine PySem.W.callWith_K (h₀ := X.base) I.ok.mod.kin hk ?_ (by rfl) (by rfl)
  show wpAny _ _ (spliced ((false, eval (.Lambda params body scope lpos) X.env) :: (false, eval (.Constant (.str word) j wpos) X.env) :: backTo pos (starEach [] X.env))) _ _ s
  refine Calls.spliced_cons (LamX.lam_make2 I TB hcode hmT hu hT hdef (L.has I.ok) fun f c' pm' ctv H1 s' I1 eN T1 hf hfn hfr hco => ?_)
  refine Calls.spliced_cons (Calls.Constant_str (Calls.spliced_nil ⟨I1.kIn, ?_⟩))
  have I2 := I1.tok (s'.toks + 1)
  have rc : codeAny (model X.prog X.w) X.A (.call (.ref g) ⟨[.ref f, .str word s'.toks], []⟩) (CR C8.CX0 X.stack X.prog X.w H1 { s' with toks := s'.toks + 1 } Q C8.E0) { s' with toks := s'.toks + 1 } := by
    refine LamX.run_ofS (N := Ng) (ps := [a, b]) (us := [.ref f, .str word s'.toks]) (vs := [.ref f, .str word]) lk hcg Sg hr I2.env0 (hb _ [.ref f, .str word s'.toks] I2.kIn rfl) (.cons rfl (.cons ⟨_, rfl⟩ .nil)) rfl fun hr' => ?_
    obtain ⟨t', ht', hq'⟩ := hG f c' _ H1 Q (fun E H' Q' => t E σ H' Q') (fun W pn xe E p1 p2 tk hW => LamX.pe_act (i := 0) I2 L hf hfn hfr (hbind _ _ _ _ _) tk hW hr' (fun A outer s H hr2 => hbody A outer s H E f c' hr2) hNg hva hd hcd) hco (h H1 eN T1)
    exact ⟨t', ht'.nox, hq'⟩
  refine wpAny_call (codeAny_mono rc fun r s2 hq => ?_)
  cases r with
  | error e => exact (show False from hq).elim
  | ok fl =>
    cases fl with
    | ret u => exact I2.after hq
    | next => exact False.elim hq
    | brk => exact False.elim hq
    | cont => exact False.elim hq
end
end Pd
end
section
set_option Elab.async false
set_option linter.all false
set_option maxRecDepth 100000
set_option maxHeartbeats 4000000
namespace Pd
open PySem PySem.Spec PyProof.Rows L2
/-! ### a test in the innermost clause -/
def ifR (c : Expr) (env : Env) (r0 : Sem Fin → Sem Fin) : Sem Fin → Sem Fin := fun tail =>
  (forIn [c] true fun c ok => if ok = true then (isTrue c env (eval c env) >>= fun b => pure (ForInStep.yield b)) else pure (ForInStep.yield ok)) >>= fun ok => if ok = true then r0 tail else tail
section
variable {X : Cx}
theorem pr_if {c : Expr} {tt : TT} {rest0 : Sem Fin → Sem Fin} {vsr : List Nat} {B : L2.St → Hp → (Hp → Prop) → Prop} (hx : X.xe = fun _ _ => False) (ht : PT X c tt) (hr : PR X vsr rest0 B) :
    PR X vsr (ifR c X.env rest0) fun σ2 H3 Nx => tt σ2 H3 fun b H7 => if b = true then B σ2 H7 Nx else Nx H7 := by
  refine ⟨fun pins s σ H Nx tail Q EE I h hk => ?_⟩
  have z := ht.run pins s σ H _ I h
  rw [hx] at z
  unfold ifR
  refine wpAny_bind ?_
  rw [List.forIn_cons]
  refine wpAny_bind ?_
  show wpAny _ _ (isTrue c X.env (eval c X.env) >>= _) _ _ _
  refine wpAny_bind (thnF z fun b s1 ⟨H1, I1, q⟩ => wpAny_pure ?_)
  show wpAny _ _ (forIn [] b _) _ _ _
  rw [List.forIn_nil]
  refine wpAny_pure ?_
  cases b with
  | true => exact hr.run pins s1 σ H1 Nx tail Q EE I1 q hk
  | false => exact hk s1 H1 (I1.weak (wipe_length _ _) fun j v e => (wipe_some e).1) q
end
def leafIA (tt : Mo Bool) (te : Mo SV) : Acc := fun acc env => match tt env with
  | some (.ok true e) => leafA te acc e
  | some (.ok false e) => some (acc, e)
  | _ => none
section
variable {T : Ent} {O M : List Addr} {D : Addr}
theorem leafT_ok {K : PySem.W.Frag} {E : Wish} {tt : Mo Bool} {te : Mo SV} (hK : KT T K E) (A : At T O M D) : LvOk (ARl T.K O D) T O M D (leafIA tt te) fun σ2 H3 Nx => tOfT K E.no tt σ2 H3 fun b H7 => if b = true then BL K E.no te D σ2 H7 Nx else Nx H7 := by
  intro e2 e3 σ2 H3 acc acc' Nx h r ha fin
  have am : ∀ H5, Fr M H3 H5 → ARl T.K O D H5 acc := fun H5 f5 => by
    obtain ⟨o, hD, _⟩ := arl_ok.obj _ _ ha
    exact arl_ok.mono _ _ _ ha ((f5 _ _ hD A.m).trans hD.symm) (f5.cut r.sub)
  unfold leafIA at h
  split at h
  · rename_i e q
    refine ⟨T, D :: O, M, e2, .ok true e, hK.no, r, q, fun H5 r5 f5 => ?_⟩
    show BL K E.no te D σ2 H5 Nx
    exact leaf_ok (E := E) hK A e e3 σ2 H5 acc acc' Nx h r5 (am H5 f5) fun H' r' a' f' => fin H' r' a' ((FrD.of f5).trans f')
  · rename_i e q
    cases h
    refine ⟨T, D :: O, M, e2, .ok false e3, hK.no, r, q, fun H5 r5 f5 => ?_⟩
    show Nx H5
    exact fin H5 r5 (am H5 f5) (FrD.of f5)
  · cases h
end
section
variable {X : Cx} {E : Wish} {pos : Pos} {np : Nat}
def lc2iM (vs vs1 : List Nat) (fi : Mo (List PyData)) (g : SV → Mo Unit) (fi1 : Mo (List PyData)) (g1 : SV → Mo Unit) (tt : Mo Bool) (te : Mo SV) : Mo SV :=
  bindM fi fun ds => topA (lvGo vs g (lvA vs1 fi1 g1 (leafIA tt te)) ds)
theorem pd_lc2i {elt tg iter tg1 iter1 c : Expr} {scope : Scope} {own : List (Str × Nat)} {vs1 : List Nat} {fi fi1 : Mo (List PyData)} {is is1 : List Nat} {g g1 : SV → Mo Unit} {tt : Mo Bool} {te : Mo SV} (hc : X.calm = true) (hN : X.N.Nodup) (hi : PDI X E tg iter fi) (ok : BlkOk X.N X.env.scope scope own)
    (hg : ∀ (s : Shared) (H : Hp) (C : Addr) (cl : List (Str × Addr)) (fp : List Addr), PDG (X.blk s H scope (compEnvC scope cl C X.env) fp) tg is g)
    (hi1 : ∀ (s : Shared) (H : Hp) (C : Addr) (cl : List (Str × Addr)) (fp : List Addr), PDI (X.blk s H scope (compEnvC scope cl C X.env) fp) E.no tg1 iter1 fi1)
    (hg1 : ∀ (s : Shared) (H : Hp) (C : Addr) (cl : List (Str × Addr)) (fp : List Addr), PDG (X.blk s H scope (compEnvC scope cl C X.env) fp) tg1 is1 g1)
    (ht : ∀ (s : Shared) (H : Hp) (C : Addr) (cl : List (Str × Addr)) (fp : List Addr), PDT (X.blk s H scope (compEnvC scope cl C X.env) fp) E.no c tt)
    (he : ∀ (s : Shared) (H : Hp) (C : Addr) (cl : List (Str × Addr)) (fp : List Addr), PDE (X.blk s H scope (compEnvC scope cl C X.env) fp) E.no elt te) (hsub : ∀ i ∈ is, i ∈ own.map (·.2) := by decide) (hsub1 : ∀ i ∈ is1, i ∈ vs1 := by decide) (hv : ∀ i ∈ vs1, i ∈ own.map (·.2) := by decide)
    (hs : ∀ x, foldedSetIterable iter X.env x = pure x := by intro _; rfl) (hs1 : ∀ env x, foldedSetIterable iter1 env x = pure x := by intro _ _; rfl) :
    PDE X E (.ListComp elt [⟨tg, iter, [], 0⟩, ⟨tg1, iter1, [c], 0⟩] scope pos) (lc2iM (own.map (·.2)) vs1 fi g fi1 g1 tt te) := by
  obtain ⟨wi, i1, i2⟩ := hi
  refine ⟨_, pe_lcN (g := tgOf X.K is g) (vsr := vs1) (B := fun D => BS X.K E.no fi1 is1 vs1 g1 (fun σ2 H3 Nx => tOfT X.K E.no tt σ2 H3 fun b H7 => if b = true then BL X.K E.no te D σ2 H7 Nx else Nx H7)) (rest := fun D env => stepR (.ListComp elt [⟨tg, iter, [], 0⟩, ⟨tg1, iter1, [c], 0⟩] scope pos) 1 iter1 D env) hc hN i1 ok hs (fun D env => ⟨fun it => by rfl⟩) (fun s H C cl fp => (hg s H C cl fp).uni) (fun D s H C cl fp => ?_) hv, ?_⟩
  · exact pr_step cle_list hc rfl rfl ⟨fun it => by rfl⟩ (hs1 _) (hi1 s H C cl fp).uni (hg1 s H C cl fp).uni (pr_if rfl (ht s H C cl fp).uni (pr_leaf rfl (he s H C cl fp).uni)) (fun _ z => nomatch z)
  · exact top_sat i2 hsub fun T O M D hK A hM => lv_ok hK A arl_ok hM hsub1 (leafT_ok (E := E) hK A)
end
/-! ### x += e, lists -/
theorem meets_iaddS {l b : Addr} {xs ys : Array Value} {n m : Nat} {sl : Array (Option Value)} (h0 : ¬(!xs.isEmpty && Builtin.List.listTooLong (xs.size + ys.size)) = true) (h1 : xs.size ≤ sizeLine) (h2 : xs.size + ys.size ≤ sizeLine + 1) :
    Meets (Builtin.«list.__iadd__» ⟨[.ref l, .ref b], []⟩) (fun _ R s => s.heap.get? l = some { cls := .type "list", dict := none, data := .seq xs n, slots := #[] } ∧ s.heap.get? b = some { cls := .type "list", dict := none, data := .seq ys m, slots := sl } ∧
      R (.ok (.ret (Value.ref l))) { s with heap := s.heap.update l (Obj.mapSeq fun x => x ++ ys), toks := s.toks }) := .of_wp fun prog w A R s h => by
  obtain ⟨hp, g, d, tk, os⟩ := s
  obtain ⟨hl, hb, h⟩ := h
  have f2 := AutoSeq1.sub_list_list
  have hz : (xs ++ ys).size ≤ sizeLine + 1 := by rw [Array.size_append]; exact h2
  wp_walk using (wpAny_updateSeq hl rfl (hz := h1) (_hz' := hz)), wpAny_loadPart hl, wpAny_loadPart hb
  exact ⟨_, rfl, h⟩
def rExtS (K : PySem.W.Frag) : R2 := fun x y H Q => ∃ l b xs zs, x = .ref l ∧ y = .ref b ∧ H l = some (.lst xs) ∧ SqL K H b zs ∧ xs.length + zs.length ≤ sizeLine ∧ Q (.ref l) (upd H l (.lst (xs ++ zs)))
section
variable {X : Cx} {E : Wish} {pos : Pos} {np : Nat}
theorem iop_extS : OpR X (inplaceOp .Add) (rExtS X.K) := by
  intro pins s σ H x y v u Q I rx ry h
  obtain ⟨l, b, xs, zs, rfl, rfl, hH, hB, hz, q⟩ := h
  cases rx
  cases ry
  obtain ⟨z, its, n, r, hl, e⟩ := I.lstM hH
  obtain ⟨its2, r2, ⟨o2, n2, e2, c2, d2, dd2⟩, _⟩ := I.list hB
  have hl2 := r2.length
  have hsz : its.toArray.size + its2.toArray.size ≤ sizeLine := by rw [List.size_toArray, List.size_toArray]; have := r.length; omega
  obtain ⟨oc, od, odt, osl⟩ := o2
  dsimp only at c2 d2 dd2
  subst c2 d2 dd2
  have big : ¬ (!its.toArray.isEmpty && Builtin.List.listTooLong (its.toArray.size + its2.toArray.size)) = true := by
    rw [notLongL hsz, Bool.and_false]
    exact Bool.false_ne_true
  refine iadd_road ⟨_, e, rfl⟩ ⟨_, e2, rfl⟩ (call_meets PySem.F.slot_list_iadd ⟨_, e, rfl⟩ PySem.F.entry_list_iadd (PySem.F.args_list_iadd_2 _ _) (meets_iaddS big (by omega) (by omega)) ⟨e, e2, ?_⟩)
  refine ⟨.ref l, _, I.lset (its' := its ++ its2) (t' := s.toks) hH e (by simp) (r.append r2) ?_, rfl, q⟩
  rw [List.length_append]
  omega
def extS (i : Nat) (f : Mo SV) : MoS := fun env => if isOwn env i = true then withE f (fun x env2 => match env2[i]?, x with
  | some (some (.own ds)), .da (.list ys) => if ds.length + ys.length < LIM then some (.nx (env2.set i (some (.own (ds ++ ys))))) else none
  | _, _ => none) env else none
theorem set_same {α : Type} {xs : List α} {i : Nat} {a : α} (h : xs[i]? = some a) : xs.set i a = xs := by
  obtain ⟨hi, e⟩ := List.getElem?_eq_some_iff.mp h
  rw [← e, List.set_getElem_self]
theorem pds_ext (i : Nat) {x : Str} {e : Expr} {pn : Pos} {f : Mo SV} (hN : X.N.Nodup) (h : PDE X E e f) (hi : X.N[i]? = some x := by rfl) (hx : Loc X.env.scope x := by first | exact .inl rfl | exact .inr rfl) (hf : X.fn x = true ∨ X.env.scope.names.lookup x = some .local := by first | exact .inl rfl | exact .inr rfl) :
    PDS X np E (.AugAssign (.Name x pn) .Add e pos) (extS i f) := by
  obtain ⟨t, h1, h2⟩ := h
  refine ⟨_, ps_aug hN hi hx h1 (iop_extS (X := X)) hf, fun T O M env σ H D o hK hP r e p => ?_⟩
  unfold extS at e
  split at e
  · rename_i hi
    obtain ⟨ds0, hd0⟩ := isOwn_some hi
    obtain ⟨v, hv, _⟩ := r.at_ _ _ hd0
    obtain ⟨l, vs0, rfl, _, hl0, _⟩ := own_at r hd0 hv
    refine ⟨_, hv, ?_⟩
    refine h2.within (Q := fun y H1 => rExtS X.K (.ref l) y H1 fun z H2 => D.nx (σ.set i (some z)) H2) hK r e p fun y e1 w H' ek r' p' rp s => ?_
    split at ek
    · rename_i ds ys hd
      split at ek
      · rename_i hlim
        cases ek
        obtain ⟨l', vs, e', hM, hl, hds⟩ := own_at r' hd hv
        cases e'
        obtain ⟨b, zs, rfl, hb, hz⟩ := Dp.isList rp
        obtain ⟨r2, s2⟩ := own_put (out := ds ++ ys) r' hd hv hM hl (DpAll.append hds hz)
        refine ⟨l, b, vs, zs, rfl, rfl, hl, by rw [← hK.eq]; exact cut_le.seq hb, ?_, ?_⟩
        · rw [DpAll.length hds, DpAll.length hz]
          exact Nat.le_of_lt (Nat.lt_of_lt_of_le hlim (lim_le (Nat.le_refl _)))
        · show D.nx (σ.set i (some (V.ref l))) _
          rw [set_same hv]
          exact p' _ _ _ _ r2 s2
      · cases ek
    · cases ek
  · cases e
end
end Pd
end
section
set_option Elab.async false
set_option linter.all false
set_option maxRecDepth 100000
set_option maxHeartbeats 4000000
namespace Pd
open PySem PySem.Spec PyProof.Rows L2
/-! ### a try whose clauses are named or not, one by one -/
/-- the exception at a has landed in X's frame; σ and H are as without it -/
structure Fly (X : Cx) (pins : List (Addr × Obj)) (a : Addr) (cls : Value) (d : Option Addr) (σ : L2.St) (H : Hp) (s : Shared) : Prop where
  ex : ∃ (B : Heap) (s0 : Shared), Inv X pins σ H s0 ∧ (∀ b o, s0.heap.get? b = some o → b ∉ frs X.stack → B.get? b = some o) ∧ s0.heap.UpToSlots s.heap ∧ HandSPX.FlyingZ B (X.env :: X.outer) a (Zc cls d) s.heap ∧ s.os = s0.os ∧ AllBare s.gens
  na : H a = none
section
variable {X : Cx} {pins : List (Addr × Obj)} {a : Addr} {cls : Value} {d : Option Addr} {σ : L2.St} {H : Hp} {s : Shared}
theorem Fly.inv (F : Fly X pins a cls d σ H s) : Inv X pins σ H s := by
  obtain ⟨B, s0, J, nb, up, fl, os, ag⟩ := F.ex
  exact J.landed nb fl.1 up os ag
theorem Fly.obj (F : Fly X pins a cls d σ H s) (hf : X.env.frame = some X.env.locals) : ∃ (oe : Obj) (vs : Array Value), s.heap.get? a = some oe ∧ Zc cls d oe ∧ oe.data = .fields vs ∧ a ≠ X.env.locals ∧ a ∉ X.fs := by
  obtain ⟨B, s0, J, nb, up, fl, os, ag⟩ := F.ex
  obtain ⟨oe, vs, e1, e2, e3⟩ := fl.there
  have far : a ∉ frs (X.env :: X.outer) := fun z => by
    obtain ⟨_, o, e4, no⟩ := fl.2.2.1.mem z
    rw [e1] at e4
    cases e4
    exact no _ e3
  refine ⟨oe, vs, e1, e2, e3, fun z => far ?_, fun z => far ?_⟩
  · exact List.mem_filterMap.mpr ⟨X.env, .head _, by rw [hf, z]⟩
  · obtain ⟨e, q1, q2⟩ := List.mem_filterMap.mp z
    exact List.mem_filterMap.mpr ⟨e, .tail _ q1, q2⟩
/-- the clauses hds do what W wishes -/
def Hb (X : Cx) (D : Ends) (W : WX) (hds : List ExceptHandler) : Prop := ∀ (pins : List (Addr × Obj)) (a : Addr) (cls : Value) (d : Option Addr) (σ : L2.St) (H : Hp) (s : Shared), Fly X pins a cls d σ H s → W cls d σ H →
  wpAny (model X.prog X.w) X.A (handleBy (.ref a) X.env hds) (SP X pins D) X.xe s
variable {D : Ends} {W Wout : WX} {hds : List ExceptHandler}
theorem hb_nil (hs : X.stack = X.env :: X.outer) (hf : X.env.frame = some X.env.locals) (tk : Takes X Wout) : Hb X D Wout [] := by
  intro pins a cls d σ H s F w
  refine wpAny_handleBy_nil ?_
  obtain ⟨B, s0, J, nb, up, fl, os, ag⟩ := F.ex
  obtain ⟨_, _, _, oe, vs, T, _, _, he, _, hd, h1, _⟩ := id fl
  unfold PySem.passOn
  refine wpAny_bind (wpAny_field he hd h1 ?_)
  rw [if_neg (by simp)]
  have out : wpAny (model X.prog X.w) X.A (setFlight (.ref a) X.env.frame) (fun _ s4 => wpAny (model X.prog X.w) X.A (throw (.ref a) : Sem Flow) (SP X pins D) X.xe s4) X.xe s := by
    rw [hf]
    exact HandSPX.setFlight_upZ fl fun h4 q4 u4 => wpAny_throw (tk _ _ ⟨a, B, s0, pins, σ, H, cls, d, rfl, J, nb, up.trans u4, .inr (.inr (by rw [hs]; exact q4)), F.na, os, ag, w⟩)
  first
    | exact wpAny_bind (wpAny_pure (wpAny_bind out))
    | exact wpAny_bind out
/-- what a clause's test and its two ways wish -/
def wIf (K : PySem.W.Frag) (c : Value) (yes no : WX) : WX := fun cls d σ H => ∃ b, PySem.W.exmOne K cls c = some b ∧ (b = true → yes cls d σ H) ∧ (b = false → no cls d σ H)
theorem test_ok {x : Str} {c : Value} {np : Pos} {b : Bool} {Q : Bool → Shared → Prop} {E1 E2 : Value → Shared → Prop} (hf : X.env.frame = some X.env.locals) (hc : Names X x c) (F : Fly X pins a cls d σ H s) (hb : PySem.W.exmOne X.K cls c = some b) (h : Q b s) :
    wpAny (model X.prog X.w) (X.A.mark (some (.ref a))) (eval (.Name x np) X.env) (fun cv s1 => wpAny (model X.prog X.w) (X.A.mark (some (.ref a))) (excMatches (.ref a) cv) Q E2 s1) E1 s := by
  obtain ⟨oe, vs, he, hz, hd, nL, nF⟩ := F.obj hf
  have I := F.inv
  have S := I.suite he hd F.na nL nF
  have LT : PySem.W.Looks (model X.prog X.w) s.heap (typeOf (.ref a)) cls := fun A Q E s k q => wpAny_typeOf_ref (k _ _ he) (by rw [hz.1]; exact q)
  have fin := (PySem.W.exm_one (M := model X.prog X.w) I.kIn LT hb).here (A := X.A.mark (some (.ref a))) (Q := Q) (E := E2) h
  obtain ⟨hg, hdbg, hm | ⟨hm, hv, hnn⟩⟩ := hc
  · exact ld_glob (X := X.suite a ((a, oe) :: (X.pn ++ pins))) S hg hm fin hdbg
  · exact ld_blt (X := X.suite a ((a, oe) :: (X.pn ++ pins))) S hg hm hv fin hnn hdbg
theorem hb_plain {x : Str} {c : Value} {np pos : Pos} {b0 : Stmt} {suite : List Stmt} {ts : Addr → Value → Option Addr → TS} (hf : X.env.frame = some X.env.locals) (hc : Names X x c)
    (hsu : ∀ (a : Addr) (oe : Obj) (cls : Value) (d : Option Addr) (pn : List (Addr × Obj)), Zc cls d oe → (∃ vs, oe.data = .fields vs) → PSs (X.suite a ((a, oe) :: pn)) (b0 :: suite) (ts a cls d)) (hr : Hb X D W hds) :
    Hb X D (wIf X.K c (fun cls d σ H => ∀ a, H a = none → ts a cls d D σ H) W) (.ExceptHandler (some (.Name x np)) none (b0 :: suite) pos :: hds) := by
  intro pins a cls d σ H s F w
  obtain ⟨b, e, yes, no⟩ := w
  refine wpAny_handleBy_cons (codeAny_handlers_test (test_ok hf hc F e ?_)) fun q => by cases q
  cases b with
  | false => exact hr pins a cls d σ H s F (no rfl)
  | true =>
    refine codeAny_handlers_suite ?_
    obtain ⟨B, s0, J, nb, up, fl, os, ag⟩ := F.ex
    refine HandSPX.lands_againZ fl fun h4 fl4 up4 => ?_
    have F4 : Fly X pins a cls d σ H { s with heap := h4 } := ⟨⟨B, s0, J, nb, up.trans up4, fl4, os, ag⟩, F.na⟩
    obtain ⟨oe, vs, he, hz, hd, nL, nF⟩ := F4.obj hf
    refine wpAny_mono ((hsu a oe cls d (X.pn ++ pins) hz ⟨_, hd⟩).run [] _ _ H D (F4.inv.suite he hd F.na nL nF) (yes rfl a F.na)) (fun f s6 q6 => ?_) fun _ _ z => False.elim z
    cases f with
    | next => obtain ⟨σ6, H6, S6, q⟩ := q6; exact ⟨_, _, S6.unsuite J.ok, q⟩
    | brk => obtain ⟨σ6, H6, S6, q⟩ := q6; exact ⟨_, _, S6.unsuite J.ok, q⟩
    | cont => obtain ⟨σ6, H6, S6, q⟩ := q6; exact ⟨_, _, S6.unsuite J.ok, q⟩
    | ret u => obtain ⟨v6, σ6, H6, S6, r6, q⟩ := q6; exact ⟨_, _, _, S6.unsuite J.ok, r6, q⟩
/-- behind a named clause its name is gone -/
def offS (i : Nat) (D : Ends) : Ends := { nx := fun σ' H' => D.nx (σ'.set i none) H', rt := D.rt, bk := fun σ' H' => D.bk (σ'.set i none) H', ct := fun σ' H' => D.ct (σ'.set i none) H' }
theorem hb_as {x n : Str} {c : Value} {i : Nat} {np pos : Pos} {b0 : Stmt} {suite : List Stmt} {ts : Addr → Value → Option Addr → TS} (hf : X.env.frame = some X.env.locals) (hN : X.N.Nodup) (hi : X.N[i]? = some n) (hln : X.env.kindOf n = some .local) (hc : Names X x c)
    (hsu : ∀ (a : Addr) (oe : Obj) (cls : Value) (d : Option Addr) (pn : List (Addr × Obj)), Zc cls d oe → (∃ vs, oe.data = .fields vs) → PSs (X.suite a ((a, oe) :: pn)) (b0 :: suite) (ts a cls d)) (hr : Hb X D W hds) :
    Hb X D (wIf X.K c (fun cls d σ H => ∀ a, H a = none → ts a cls d (offS i D) (σ.set i (some (.ref a))) H) W) (.ExceptHandler (some (.Name x np)) (some n) (b0 :: suite) pos :: hds) := by
  intro pins a cls d σ H s F w
  obtain ⟨b, e, yes, no⟩ := w
  refine wpAny_handleBy_cons (codeAny_handlers_test (test_ok hf hc F e ?_)) fun q => by cases q
  cases b with
  | false => exact hr pins a cls d σ H s F (no rfl)
  | true =>
    refine codeAny_handlers_suite_as ?_
    obtain ⟨B, s0, J, nb, up, fl, os, ag⟩ := F.ex
    refine HandSPX.lands_againZ fl fun h4 fl4 up4 => ?_
    have F4 : Fly X pins a cls d σ H { s with heap := h4 } := ⟨⟨B, s0, J, nb, up.trans up4, fl4, os, ag⟩, F.na⟩
    obtain ⟨oe, vs, he, hz, hd, nL, nF⟩ := F4.obj hf
    refine store_ok (X := X.suite a ((a, oe) :: (X.pn ++ pins))) (v := .ref a) (F4.inv.suite he hd F.na nL nF) hN hi (.inl hln) rfl (fun s5 S5 => ?_) (.inr hln)
    refine wpAny_mono ((hsu a oe cls d (X.pn ++ pins) hz ⟨_, hd⟩).run [] s5 _ H (offS i D) S5 (yes rfl a F.na)) (fun f s6 q6 => ?_) fun _ _ z => False.elim z
    have last : ∀ {σ6 : L2.St} {H6 : Hp} {Q : Shared → Prop}, Inv (X.suite a ((a, oe) :: (X.pn ++ pins))) [] σ6 H6 s6 → (∀ s7, Inv X pins (σ6.set i none) H6 s7 → Q s7) →
        wpAny (model X.prog X.w) X.A (do bindName X.env n .none; unbindBehindTheSuite X.env n pos) (fun _ s7 => Q s7) X.xe s6 := fun {σ6 H6 Q} S6 hq => gone_ok (S6.unsuite J.ok) hN hi hln hq
    cases f with
    | next => obtain ⟨σ6, H6, S6, q⟩ := q6; exact last S6 fun s7 J7 => ⟨_, _, J7, q⟩
    | brk => obtain ⟨σ6, H6, S6, q⟩ := q6; exact last S6 fun s7 J7 => ⟨_, _, J7, q⟩
    | cont => obtain ⟨σ6, H6, S6, q⟩ := q6; exact last S6 fun s7 J7 => ⟨_, _, J7, q⟩
    | ret u => obtain ⟨v6, σ6, H6, S6, r6, q⟩ := q6; exact last S6 fun s7 J7 => ⟨_, _, _, J7, r6, q⟩
end
section
variable {X : Cx} {body : List Stmt} {h0 : ExceptHandler} {hds : List ExceptHandler} {pos : Pos} {tb : WX → TS} {W : Ends → WX}
theorem ps_try_hb (hs : X.stack = X.env :: X.outer) (hf : X.env.frame = some X.env.locals)
    (hb : ∀ (W : WX) (pn : List (Addr × Obj)) (xe : Value → Shared → Prop), Takes (X.tr pn xe) W → PassesOwn (model X.prog X.w) X.A X.env xe → PSs (X.tr pn xe) body (tb W))
    (hh : ∀ D, Hb X D (W D) (h0 :: hds)) : PS X (.Try body (h0 :: hds) [] [] pos) (fun D σ H => tb (W D) D σ H) := by
  refine ⟨fun pins s σ H D I h => ?_⟩
  have hfr : X.A.frames = some (X.env :: X.outer) := by rw [I.ok.frames, hs]
  refine wpAny_Try_except (wpAny_mono ((hb (W D) (X.pn ++ pins) _ (fun u s' xx => ?_) PassesOwn.looking).run [] s σ H D (I.toTry (fun e s₁ => wpAny (model X.prog X.w) X.A (noteFrame e X.env) (fun _ s₂ => wpAny (model X.prog X.w) X.A (setFlight e none) (fun _ s₃ =>
    wpAny (model X.prog X.w) X.A (handleBy e X.env (h0 :: hds)) (SP X pins D) X.xe s₃) X.xe s₂) X.xe s₁)) h) (fun f s1 q => ?_) fun e s1 he => he)
  · obtain ⟨a, B, s0, pins', σ', H', cls, d, rfl, J', nb, up, sky, na, os, ag, w⟩ := xx
    show wpAny (model X.prog X.w) X.A (noteFrame (.ref a) X.env) _ _ _
    refine Sky.land Zc.steady hfr hf (B := B) (Z := Zc cls d) (by rw [← hs]; exact sky) fun h3 fl3 up3 => ?_
    exact hh D pins a cls d σ' H' { s' with heap := h3 } ⟨⟨B, s0, J'.ofTry I.ok, nb, up.trans up3, fl3, os, ag⟩, na⟩ w
  · cases f with
    | next => obtain ⟨σ', H', J', q⟩ := q; exact wpAny_execs_nil ⟨σ', H', J'.ofTry I.ok, q⟩
    | brk => obtain ⟨σ', H', J', q⟩ := q; exact ⟨σ', H', J'.ofTry I.ok, q⟩
    | cont => obtain ⟨σ', H', J', q⟩ := q; exact ⟨σ', H', J'.ofTry I.ok, q⟩
    | ret u => obtain ⟨v, σ', H', J', r, q⟩ := q; exact ⟨v, σ', H', J'.ofTry I.ok, r, q⟩
end
end Pd
end
section
set_option Elab.async false
set_option linter.all false
set_option maxRecDepth 100000
set_option maxHeartbeats 4000000
namespace Pd
open PySem PySem.Spec PyProof.Rows L2
section
variable {X : Cx} {pins : List (Addr × Obj)} {σ : L2.St} {H : Hp} {s : Shared}
/-- the lambda called in the def that got it: what an exception is to do may lean on the slots there -/
theorem pe_act2 {CXg : CXT} {Eg : XK} {Ng : List Str} {qg : Str} {sg : Scope} {g f c' : Addr} {cdg pm ctv : Value} {params : Arguments} {body : Expr} {scope : Scope} {k i : Nat} {a : Str} {pn : List (Addr × Obj)} {xe : Value → Shared → Prop} {W : WX} {tb : XK → TE} {p1 p2 : Pos}
    (I : Inv X pins σ H s) (L : LamX.LamS X.env.scope scope) (hf : s.heap.get? f = some (PySem.W.kla_obj "<lambda>" (X.env.qual ++ "<lambda>") params body scope (cloFrom X.env.cells scope.names []) pm c' ctv)) (hfn : H f = none) (hfr : f ∉ frs X.stack)
    (hbind : bindArgs (PySem.W.kla_fn "<lambda>" (X.env.qual ++ "<lambda>") params body scope (cloFrom X.env.cells scope.names []) pm (.ref c') ctv) ⟨[], []⟩ = pure [])
    (tk : Takes ((cxOf CXg X.prog X.w X.K X.mg X.base Ng qg sg g cdg X.A X.stack s H Eg).tr pn xe) W) (hr : Room (k + 1) (X.A.deeper (envOfC qg sg s.heap.objs.size g cdg)))
    (hbody : ∀ (E : XK) (A : Around) (outer : List Env) (s : Shared) (H : Hp), Room k (A.deeper (LamX.lamEnv X scope s.heap.objs.size f c')) → PE (LamX.lamCx X A outer s H E scope f c') body (tb E))
    (hN : Ng[i]? = some a) (hv : Vis sg a) (hd : (a == ("__debug__" : Str)) = false := by decide) (hcd : (a == ("__classdict__" : Str)) = false := by decide) :
    PE ((cxOf CXg X.prog X.w X.K X.mg X.base Ng qg sg g cdg X.A X.stack s H Eg).tr pn xe) (.Call (.Name a p1) [] [] p2)
      (fun σZ HZ Q => ∃ E : XK, (∀ cls d H', E cls d H' → W cls d σZ H') ∧ σZ[i]? = some (some (.ref f)) ∧ HZ c' = some (LamX.CodeO c' (X.env.qual ++ "<lambda>")) ∧ tb E σ HZ Q) := by
  refine ⟨fun pZ sZ σZ HZ Q IZ ⟨E, hW, e1, e2, e3⟩ => ?_⟩
  refine wpAny_Call_Name_kw (thn ((pe_var (pos := p1) (i := i) hN hv hd hcd).run pZ sZ σZ HZ (fun v H1 => v = .ref f ∧ H1 = HZ) IZ ⟨.ref f, e1, rfl, rfl⟩) fun u s1 ⟨v, H1, I1, r1, q0, q1⟩ => ?_)
  subst q0 q1
  obtain rfl : u = Value.ref f := r1
  have lam := I1.base.keep f _ hf hfn hfr fun z => nomatch (show f ∈ ([] : List Addr) from z)
  refine PySem.W.callWith_F0 ⟨_, _, _, _, lam⟩ ?_
  have un : Un (frs X.stack) [] H H1 s.heap s1.heap := I1.base
  obtain ⟨⟨oc, vs, t, hoc, hdc, hvc⟩, _, _⟩ := I1.hok c' _ e2
  refine wpAny_call (codeAny_mono (R := CR (L2.CX X.prog X.w) (envOfC qg sg s.heap.objs.size g cdg :: X.stack) X.prog X.w H1 s1 Q E) ?_ fun r s' hq => ?_)
  · show codeAny _ _ (.call (.ref f) ⟨[], []⟩) _ _
    refine PySem.W.kla_callFunE hr.depth lam rfl L.co L.gen rfl ⟨c', oc, vs, t, rfl, hoc, hdc, hvc⟩ ?_
    rw [hbind]
    refine wpAny_pure (wpAny_newFunctionEnv (fun y hy => (L.own y hy).2) (fun y hy => absurd hy (by simp)) (fun h1 hns hsb => ⟨I1.nolimit.fresh _ hsb, ?_⟩) L.kind)
    refine PySem.W.kla_codeExpr (wpAny_mono ((hbody E _ _ s1 H1 (hr.deeper _)).run [] _ _ H1 Q (LamX.lam_start2 I L I1.env0 hr.hd un hns fun b o e => hsb.extBut b o (Nat.ne_of_lt (Heap.lt_size e)) (Heap.get?_push_of_some _ e)) e3) (fun v s' ⟨w', H', J', rv, q⟩ => ?_) fun e s' hq => hq)
    exact ⟨w', H', J'.os, J'.bare, J'.base, J'.hok, rv, q⟩
  · cases r with
    | error e => exact tk e s' (XE.of_call I1 hW hq)
    | ok fl =>
      cases fl with
      | ret u => exact I1.after hq
      | next => exact False.elim hq
      | brk => exact False.elim hq
      | cont => exact False.elim hq
end
/-! ### a lambda made: only its def's table is written -/
section
variable {X : Cx} {pins : List (Addr × Obj)} {σ : L2.St} {H : Hp} {s : Shared}
/-- all but what stands at P is kept -/
def But (P : Addr) (H H1 : Hp) : Prop := ∀ b o, H b = some o → b ≠ P → H1 b = some o
theorem tabs_put {T : List (Addr × Str)} {P : Addr} {q : Str} {H1 : Hp} (h : LamX.Tabs T H) (f : But P H H1) (hP : ∃ ps, H P = some (.tbl ps)) (h1 : LamX.TabS H1 P q) (hu : ∀ p ∈ T, p.1 = P → p.2 = q) : LamX.Tabs T H1 := fun p hp => by
  by_cases e : p.1 = P
  · rw [hu p hp e, e]; exact h1
  · obtain ⟨ps, a1, a2, a3⟩ := h p hp
    refine ⟨ps, f _ _ a1 e, a2, fun pos cv hc => ?_⟩
    obtain ⟨c, b1, b2⟩ := a3 pos cv hc
    refine ⟨c, b1, f _ _ b2 fun z => ?_⟩
    obtain ⟨ps', z2⟩ := hP
    rw [z, z2] at b2
    exact LamX.codeO_ne ps' (Option.some.inj b2).symm
theorem lam_make3 {c P : Addr} {params : Arguments} {body : Expr} {scope : Scope} {pos : Pos} {E : Value → Shared → Prop} {Q : Value → Shared → Prop} (I : Inv X pins σ H s) (TB : LamX.TabB X.base X.mg c P) (hcode : X.env.code = .ref c)
    (hT : LamX.TabS H P (X.env.qual ++ "<lambda>")) (hdef : defaultsOf params X.env = ([], [])) (hfree : ∀ y ∈ scope.names, y.2 = .free → ∃ c, X.env.cells.lookup y.1 = some c)
    (h : ∀ (f c' : Addr) (pm ctv : Value) (H1 : Hp) (s' : Shared), Inv X pins σ H1 s' → But P H H1 → LamX.TabS H1 P (X.env.qual ++ "<lambda>") →
      s'.heap.get? f = some (PySem.W.kla_obj "<lambda>" (X.env.qual ++ "<lambda>") params body scope (cloFrom X.env.cells scope.names []) pm c' ctv) → H1 f = none → f ∉ frs X.stack → H1 c' = some (LamX.CodeO c' (X.env.qual ++ "<lambda>")) → Q (.ref f) s') :
    wpAny (model X.prog X.w) X.A (eval (.Lambda params body scope pos) X.env) Q E s := by
  obtain ⟨ps, hP, ht, ha⟩ := id hT
  have tab := I.hok P _ hP
  have far : ∀ f, s.heap.objs.size ≤ f → f ∉ frs X.stack := fun f hf z => (List.mem_cons.mp (I.stkSub _ z)).elim (fun e => Nat.not_lt.mpr hf (by rw [e]; exact I.lt)) fun e => I.nofs hf e
  refine PySem.W.kla_eval hdef ?_
  cases hc : codeAmong pos ps.toList with
  | some cv =>
    obtain ⟨c', rfl, hco⟩ := ha pos cv hc
    exact PySem.W.kla_makeFunctionHit (closure_ok hfree) I.ok.glob (I.mod.glob.keeps I.bk) hcode (TB.code.keeps I.bk) tab ht hc (TB.bm.keeps I.bk) fun ctv h' tk hx hsz =>
      h h'.objs.size c' ((X.mg "__name__").getD .none) ctv H _ (I.kept fun b o e => Heap.get?_push_of_some _ (hx b o e)) (fun _ _ e _ => e) hT (Heap.get?_push_size _ rfl) (I.hok.fresh hsz) (far _ hsz) hco
  | none =>
    refine PySem.W.kla_makeFunction (closure_ok hfree) I.ok.glob (I.mod.glob.keeps I.bk) hcode (TB.code.keeps I.bk) tab ht hc TB.gP (TB.bm.keeps I.bk) fun c' ctv h' tk hx hge hlt hrec htb => ?_
    obtain ⟨c2, oc, vs, t, e2, hoc, hd, hv⟩ := hrec
    cases e2
    have nC : H c' = none := I.hok.fresh hge
    have sz := Nat.le_trans hge (Nat.le_of_lt hlt)
    have J := LamX.inv_table (t' := tk) (h' := h'.push (PySem.W.kla_obj "<lambda>" (X.env.qual ++ "<lambda>") params body scope (cloFrom X.env.cells scope.names []) ((X.mg "__name__").getD .none) c' ctv)) I hP (fun b o hb e => Heap.get?_push_of_some _ (hx b o hb e)) (Heap.get?_push_of_some _ htb) hge ⟨oc, vs, t, Heap.get?_push_of_some _ hoc, hd, hv⟩
    have F : ∀ u v, But P H (upd (upd H P u) c' v) := fun u v b o e n => by rw [upd_ne (ne_of_none e nC), upd_ne n]; exact e
    refine h h'.objs.size c' _ ctv _ _ J (F _ _) ⟨_, by rw [upd_ne (ne_of_none hP nC), upd_same], ?_, fun p' cv hcv => ?_⟩ (Heap.get?_push_size _ rfl) ?_ (far _ sz) upd_same
    · rw [Array.toList_append]; exact PySem.TriplesOk_snoc _ _ _ _ ht
    · rw [Array.toList_append] at hcv
      rcases LamX.among_app _ ht hcv with z | z
      · obtain ⟨c0, e1, e3⟩ := ha p' cv z
        exact ⟨c0, e1, F _ _ _ _ e3 fun y => LamX.codeO_ne ps (Option.some.inj (e3.symm.trans (by rw [y]; exact hP)))⟩
      · exact ⟨c', z, upd_same⟩
    · rw [upd_ne (Nat.ne_of_gt hlt), upd_ne (Nat.ne_of_gt (Nat.lt_of_lt_of_le (Heap.lt_size tab) sz))]
      exact I.hok.fresh sz
end
/-- a def of two parameters that calls the first: the lambda, a text; what it wishes of an exception may lean on its slots -/
def GivesW (X : Cx) (Ng : List Str) (x : Str) (sg : Scope) (g : Addr) (cdg : Value) (bg : List Stmt) (a q word : Str) (TT : (XK → Hp → VK → Prop) → Hp → VK → Prop) : Prop :=
  ∀ (f c' : Addr) (s : Shared) (H : Hp) (Q : VK) (tl : XK → Hp → VK → Prop),
    (∀ (W : WX) (pn : List (Addr × Obj)) (xe : Value → Shared → Prop) (p1 p2 : Pos), Takes ((cxOf C8.CX0 X.prog X.w X.K X.mg X.base Ng x sg g cdg X.A X.stack s H C8.E0).tr pn xe) W →
      PE ((cxOf C8.CX0 X.prog X.w X.K X.mg X.base Ng x sg g cdg X.A X.stack s H C8.E0).tr pn xe) (.Call (.Name a p1) [] [] p2) (fun σZ HZ Q => ∃ E : XK, (∀ cls d H', E cls d H' → W cls d σZ H') ∧ σZ[0]? = some (some (.ref f)) ∧ HZ c' = some (LamX.CodeO c' q) ∧ tl E HZ Q)) →
    H c' = some (LamX.CodeO c' q) → TT tl H Q →
    ∃ t, PSs (cxOf C8.CX0 X.prog X.w X.K X.mg X.base Ng x sg g cdg X.A X.stack s H C8.E0).nox bg t ∧ t { nx := fun _ H' => Q .non H', rt := Q } (L2.start Ng [.ref f, .str word]) H
section
variable {X : Cx}
/-- x(lambda: body, 'word') -/
def tLam3 (P : Addr) (q : Str) (TT : (XK → Hp → VK → Prop) → Hp → VK → Prop) (t : XK → TE) : TE := fun σ H Q => LamX.TabS H P q ∧ ∀ H1, But P H H1 → LamX.TabS H1 P q → TT (fun E H' Q' => t E σ H' Q') H1 Q
theorem pe_lamcall3 {TT : (XK → Hp → VK → Prop) → Hp → VK → Prop} {x a b word : Str} {g c P : Addr} {k : Nat} {pg : Arguments} {bg : List Stmt} {sg : Scope} {dV kV doc pm cdv ct oc : Value} {an od : Option Addr} {osl : Array (Option Value)} {Ng : List Str}
    {params : Arguments} {body : Expr} {scope : Scope} {t : XK → TE} {p lpos wpos pos : Pos} {j} (hg : Gl X x) (hm : X.mg x = some (.ref g)) (hk : PySem.W.keepIn X.K (.ref g) = true)
    (lk : X.K.lookup g = some ⟨oc, od, .func (PySem.W.fnOf x x pg bg sg dV kV doc pm an cdv ct), osl⟩) (hcg : PySem.W.codeIn X.K cdv x = true) (hb : L2.Binds X.K (PySem.W.fnOf x x pg bg sg dV kV doc pm an cdv ct) [a, b] []) (Sg : FnScope Ng [a, b] sg) (hNg : Ng[0]? = some a) (hva : Vis sg a)
    (hG : GivesW X Ng x sg g cdv bg a (X.env.qual ++ "<lambda>") word TT)
    (TB : LamX.TabB X.base X.mg c P) (hcode : X.env.code = .ref c) (hr : Room (k + 2) X.A) (L : LamX.LamS X.env.scope scope) (hdef : defaultsOf params X.env = ([], []))
    (hbind : ∀ (q : Str) (cl : List (Str × Addr)) (pm cv ctv : Value), bindArgs (PySem.W.kla_fn "<lambda>" q params body scope cl pm cv ctv) ⟨[], []⟩ = pure [])
    (hbody : ∀ (A : Around) (outer : List Env) (s : Shared) (H : Hp) (E : XK) (f c' : Addr), Room k (A.deeper (LamX.lamEnv X scope s.heap.objs.size f c')) → PE (LamX.lamCx X A outer s H E scope f c') body (t E))
    (hdb : (x == ("__debug__" : Str)) = false := by decide) (hd : (a == ("__debug__" : Str)) = false := by decide) (hcd : (a == ("__classdict__" : Str)) = false := by decide) :
    PE X (.Call (.Name x p) [.Lambda params body scope lpos, .Constant (.str word) j wpos] [] pos) (tLam3 P (X.env.qual ++ "<lambda>") TT t) := by
  refine ⟨fun pins s σ H Q I ⟨hT, h⟩ => ?_⟩
  refine wpAny_Call_Name_kw (ld_glob I hg hm (PySem.W.callWith_K (h₀ := X.base) I.ok.mod.kin hk ?_ (by rfl) (by rfl)) hdb)
  show wpAny _ _ (spliced ((false, eval (.Lambda params body scope lpos) X.env) :: (false, eval (.Constant (.str word) j wpos) X.env) :: backTo pos (starEach [] X.env))) _ _ s
  refine Calls.spliced_cons (lam_make3 I TB hcode hT hdef (L.has I.ok) fun f c' pm' ctv H1 s' I1 eN T1 hf hfn hfr hco => ?_)
  refine Calls.spliced_cons (Calls.Constant_str (Calls.spliced_nil ⟨I1.kIn, ?_⟩))
  have I2 := I1.tok (s'.toks + 1)
  refine wpAny_call (codeAny_mono (R := CR C8.CX0 X.stack X.prog X.w H1 { s' with toks := s'.toks + 1 } Q C8.E0) ?_ fun r s2 hq => ?_)
  · refine LamX.run_ofS (N := Ng) (ps := [a, b]) (us := [.ref f, .str word s'.toks]) (vs := [.ref f, .str word]) lk hcg Sg hr I2.env0 (hb _ [.ref f, .str word s'.toks] I2.kIn rfl) (.cons rfl (.cons ⟨_, rfl⟩ .nil)) rfl fun hr' => ?_
    obtain ⟨t', ht', hq'⟩ := hG f c' _ H1 Q (fun E H' Q' => t E σ H' Q') (fun W pn xe p1 p2 tk => pe_act2 (i := 0) I2 L hf hfn hfr (hbind _ _ _ _ _) tk hr' (fun E A outer s H hr2 => hbody A outer s H E f c' hr2) hNg hva hd hcd) hco (h H1 eN T1)
    exact ⟨t', ht'.nox, hq'⟩
  · cases r with
    | error e => exact (show False from hq).elim
    | ok fl =>
      cases fl with
      | ret u => exact I2.after hq
      | next => exact False.elim hq
      | brk => exact False.elim hq
      | cont => exact False.elim hq
/-- try: return what() / except CB: return (word, None) / except CS as error: return (word, error.index) -/
def TTold2 (K : PySem.W.Frag) (CB CS : Addr) (word : Str) (tl : XK → Hp → VK → Prop) (H : Hp) (Q : VK) : Prop :=
  tl (fun cls d H' => ∃ b, PySem.W.exmOne K cls (.ref CB) = some b ∧ (b = true → ∀ p, H' p = none → Q (.ref p) (upd H' p (.tup [.str word, .non]))) ∧
    (b = false → ∃ b2, PySem.W.exmOne K cls (.ref CS) = some b2 ∧ (b2 = true → cls = .ref CS ∧ ∃ dd fs v, d = some dd ∧ H' dd = some (.xd fs) ∧ fs.lookup ("index" : Str) = some v ∧ ∀ p, H' p = none → Q (.ref p) (upd H' p (.tup [.str word, v]))) ∧ (b2 = false → False))) H Q
theorem told_gives2 {x a b n e1 e2 q word : Str} {sg : Scope} {g CB CS : Addr} {cdg : Value} {j k1 k2} {p1 p2 p3 p4 p5 p6 p7 p8 p9 p10 p11 p12 p13 p14 p15 p16 p17 : Pos} (hge1 : sg.names.lookup e1 = some .globalImplicit) (hme1 : X.mg e1 = some (.ref CB)) (hde1 : (e1 == ("__debug__" : Str)) = false)
    (hge2 : sg.names.lookup e2 = some .globalImplicit) (hme2 : X.mg e2 = some (.ref CS)) (hde2 : (e2 == ("__debug__" : Str)) = false) (hb : sg.names.lookup b = some .local) (hn : sg.names.lookup n = some .local) (nd : [a, b, n].Nodup) (T : XfC X.K CS) (hno : PySem.W.findIn X.K (.ref CS) "index" = some none)
    (hdb : (b == ("__debug__" : Str)) = false) (hcb : (b == ("__classdict__" : Str)) = false) (hdn : (n == ("__debug__" : Str)) = false) (hcn : (n == ("__classdict__" : Str)) = false) :
    GivesW X [a, b, n] x sg g cdg [.Try [.Return (some (.Call (.Name a p1) [] [] p2)) p3] [.ExceptHandler (some (.Name e1 p4)) none [.Return (some (.Tuple [.Name b p5, .Constant .none j p6] k1 p7)) p8] p9,
      .ExceptHandler (some (.Name e2 p10)) (some n) [.Return (some (.Tuple [.Name b p11, .Attribute (.Name n p12) "index" p13] k2 p14)) p15] p16] [] [] p17] a q word (TTold2 X.K CB CS word) := by
  intro f c' s H Q tl act hc h
  refine ⟨_, pss_one (ps_try_hb (X := (cxOf C8.CX0 X.prog X.w X.K X.mg X.base [a, b, n] x sg g cdg X.A X.stack s H C8.E0).nox)
    (tb := fun W D σ H => ∃ E : XK, (∀ cls d H', E cls d H' → W cls d σ H') ∧ σ[0]? = some (some (.ref f)) ∧ H c' = some (LamX.CodeO c' q) ∧ tl E H D.rt) rfl rfl (fun W pn xe tk _ => pss_one (ps_ret (act W pn xe p1 p2 tk)))
    fun D => hb_plain (c := .ref CB) rfl ⟨hge1, hde1, .inl hme1⟩ (fun a oe cls d pn _ _ => pss_one (ps_ret (pe_tup (pa_cons (pe_var (i := 1) rfl (.inl hb) hdb hcb) (pa_cons pe_non pa_nil)))))
      (hb_as (i := 2) (c := .ref CS) rfl nd rfl hn ⟨hge2, hde2, .inl hme2⟩ (fun a oe cls d pn hz hf => pss_one (ps_ret (pe_tup (pa_cons (pe_var (i := 1) rfl (.inl hb) hdb hcb) (pa_cons (pe_xf T hno hz hf (pe_var (i := 2) rfl (.inl hn) hdn hcn)) pa_nil))))) (hb_nil rfl rfl LamX.takes0))), ?_⟩
  refine ⟨_, fun cls d H' hE => ?_, rfl, hc, h⟩
  obtain ⟨b, hb1, yes, no⟩ := hE
  refine ⟨b, hb1, fun z a _ => ?_, fun z => ?_⟩
  · exact ⟨.str word, rfl, le1000 (by simp), fun p hp => yes z p hp⟩
  · obtain ⟨b2, hb2, yes2, no2⟩ := no z
    refine ⟨b2, hb2, fun z2 a _ => ?_, fun z2 => no2 z2⟩
    obtain ⟨hcls, dd, fs, v, h1, h2, h3, h4⟩ := yes2 z2
    exact ⟨.str word, rfl, .ref a, rfl, rfl, hcls, dd, fs, v, h1, h2, h3, le1000 (by simp), fun p hp => h4 p hp⟩
end
end Pd
end
section
set_option Elab.async false
set_option linter.all false
set_option maxRecDepth 100000
set_option maxHeartbeats 4000000
namespace Pd
open PySem PySem.Spec PyProof.Rows L2
/-! ### what a told gives -/
/-- the slots without the owned lists -/
def blind (env : PEnv) : PEnv := env.map fun x => match x with
  | some (.own _) => none
  | some (.dic _) => none
  | x => x
/-- told(lambda: e, word): e sees no owned list -/
def toldB (CB CS : Addr) (word : Str) (f : Mo SV) : Mo SV := fun env => match f (blind env) with
  | some (.ok d _) => some (.ok d env)
  | some (.exc C fs) => if C = CB then some (.ok (.da (.tuple [.str word, .none])) env) else if C = CS then (match fs.lookup ("index" : Str) with
    | some d => some (.ok (.da (.tuple [.str word, d])) env)
    | none => none) else none
  | none => none
structure TldC (K : PySem.W.Frag) (CB CS : Addr) : Prop where
  bb : PySem.W.exmOne K (.ref CB) (.ref CB) = some true
  sb : PySem.W.exmOne K (.ref CS) (.ref CB) = some false
  ss : PySem.W.exmOne K (.ref CS) (.ref CS) = some true
section
variable {T : Ent} {O M : List Addr} {env : PEnv} {σ : L2.St} {H H' : Hp}
theorem blind_get {j : Nat} {sv : SV} (h : (blind env)[j]? = some (some sv)) : env[j]? = some (some sv) ∧ (∀ ds, sv ≠ .own ds) ∧ ∀ ds, sv ≠ .dic ds := by
  unfold blind at h
  rw [List.getElem?_map] at h
  cases q : env[j]? with
  | none => rw [q] at h; cases h
  | some x =>
    rw [q] at h
    cases x with
    | none => cases h
    | some y =>
      cases y with
      | own ds => cases h
      | dic ds => cases h
      | da d => cases h; exact ⟨rfl, (fun _ z => nomatch z), fun _ z => nomatch z⟩
      | obj C fs => cases h; exact ⟨rfl, (fun _ z => nomatch z), fun _ z => nomatch z⟩
/-- only tables have changed -/
theorem R.calm (r : R T O M env σ H) (k : ∀ b o, H b = some o → b ∉ T.tbs.map (·.1) → H' b = some o) (t : LamX.Tabs T.tbs H') : R T O M env σ H' ∧ Fr M H H' := by
  have tm : ∀ b, b ∈ T.tbs.map (·.1) → b ∈ M := fun b hb => by
    obtain ⟨p, hp, rfl⟩ := List.mem_map.mp hb
    exact r.tin p hp
  have f : Fr M H H' := fun b o h n => k b o h fun z => n (tm b z)
  have ec := f.cut r.sub
  refine ⟨⟨r.len, fun i sv h => ?_, r.apart, r.apartD, fun l hl z => ?_, r.sub, r.ent, r.mine, fun b o h n n2 => k b o (r.frame b o h n n2) n2, r.pars, t, r.tin⟩, f⟩
  · obtain ⟨v, h1, h2⟩ := r.at_ i sv h
    refine ⟨v, h1, ?_⟩
    cases sv with
    | da d => exact RepR.mono (sv := .da d) ec h2
    | obj C fs => exact RepR.mono (sv := .obj C fs) ec h2
    | own ds =>
      obtain ⟨l, vs, q1, q2, q3, q4⟩ := h2
      refine ⟨l, vs, q1, q2, k _ _ q3 fun z => ?_, DpAll.mono ec _ _ q4⟩
      obtain ⟨ps, e⟩ := tab_some r.tabs z
      rw [q3] at e; cases e
    | dic ds =>
      obtain ⟨l, xs, w, q1, q2, q3, q4⟩ := h2
      refine ⟨l, xs, w, q1, q2, k _ _ q3 fun z => ?_, q4.mono ec⟩
      obtain ⟨ps, e⟩ := tab_some r.tabs z
      rw [q3] at e; cases e
  · by_cases hb : l ∈ T.tbs.map (·.1)
    · obtain ⟨ps, e⟩ := tab_some t hb
      rw [z] at e; cases e
    · cases q : H l with
      | none => exact r.live l hl q
      | some o => rw [k l o q hb] at z; cases z
/-- seen from a lambda that touches no owned list -/
theorem R.blind (r : R T O M env σ H) : R ⟨T.K, H, O, [], T.tbs⟩ O (T.tbs.map (·.1)) (Pd.blind env) σ H := by
  have tm : ∀ b, b ∈ T.tbs.map (·.1) → b ∈ M := fun b hb => by
    obtain ⟨p, hp, rfl⟩ := List.mem_map.mp hb
    exact r.tin p hp
  refine ⟨by unfold Pd.blind; rw [List.length_map]; exact r.len, fun i sv h => ?_, fun i j a ds es h1 => ?_, fun i j a ds es h1 => absurd rfl ((blind_get h1).2.2 ds), r.live, fun l h => r.sub l (tm l h), fun _ h => h, fun l h => .inr (.inr h), fun b o h _ _ => h, fun p hp => absurd hp (by simp), r.tabs, fun p hp => List.mem_map_of_mem hp⟩
  · obtain ⟨h1, no⟩ := blind_get h
    obtain ⟨v, q1, q2⟩ := r.at_ i sv h1
    refine ⟨v, q1, ?_⟩
    cases sv with
    | da d => exact q2
    | obj C fs => exact q2
    | own ds => exact absurd rfl (no.1 ds)
    | dic ds => exact absurd rfl (no.2 ds)
  · exact absurd rfl ((blind_get h1).2.1 ds)
end
section
variable {X : Cx} {E : Wish}
theorem told_sat {P CB CS : Addr} {q word : Str} {f : Mo SV} (tl : TldC X.K CB CS) (hm : (P, q) ∈ E.tbs) (hu : ∀ p ∈ E.tbs, p.1 = P → p.2 = q) :
    SatE X.K E (tLam3 P q (TTold2 X.K CB CS word) fun E' => tOf X.K ⟨E', E.tbs⟩ f) (toldB CB CS word f) := by
  intro T O M env σ H Q o hK r e p
  have hT : LamX.TabS H P q := (by have := r.tabs; rw [hK.tb] at this; exact this _ hm)
  refine ⟨hT, fun H1 bt t1 => ?_⟩
  have hP : P ∈ T.tbs.map (·.1) := by rw [hK.tb]; exact List.mem_map_of_mem (f := (·.1)) hm
  obtain ⟨r1, f1⟩ := r.calm (H' := H1) (fun b o h n => bt b o h fun z => n (by rw [z]; exact hP)) (tabs_put r.tabs bt (by obtain ⟨ps, e, _⟩ := hT; exact ⟨ps, e⟩) t1 (by rw [hK.tb]; exact hu))
  have rb := r1.blind
  -- behind the lambda: all but the tables is as it was
  have back : ∀ H', (∀ b o, H1 b = some o → b ∉ T.tbs.map (·.1) → H' b = some o) → LamX.Tabs T.tbs H' → R T O M env σ H' ∧ Fr M H H' := fun H' k t => by
    obtain ⟨r2, f2⟩ := r1.calm k t
    exact ⟨r2, f1.trans f2⟩
  unfold toldB at e
  unfold TTold2
  cases q2 : f (blind env) with
  | none => rw [q2] at e; cases e
  | some o2 =>
    rw [q2] at e
    refine ⟨⟨T.K, H1, O, [], T.tbs⟩, O, T.tbs.map (·.1), blind env, o2, ⟨hK.eq, hK.tb⟩, rb, q2, ?_⟩
    cases o2 with
    | ok d e2 =>
      cases e
      intro v H' r2 f2 rp
      obtain ⟨r3, f3⟩ := back H' f2 r2.tabs
      exact p v H' r3 f3 rp
    | exc C fs =>
      replace e : (if C = CB then some (Out.ok (SV.da (.tuple [.str word, .none])) env) else if C = CS then (match fs.lookup ("index" : Str) with
        | some d => some (Out.ok (SV.da (.tuple [.str word, d])) env)
        | none => none) else none) = some o := e
      intro od H' ft tb rx
      obtain ⟨r3, f3⟩ := back H' (fun b o h n => ft b o h (by simp) n) tb
      by_cases hC : C = CB
      · rw [if_pos hC] at e
        subst hC
        cases e
        refine ⟨true, tl.bb, fun _ a ha => ?_, fun z => nomatch z⟩
        refine p (.ref a) _ (r3.same (same_upd ha)) (f3.trans (Fr.of (same_upd ha))) ?_
        exact .tup (.inl (.inl (cut_upd (r3.new ha)))) (.cons (.str _) (.cons .non .nil))
      · rw [if_neg hC] at e
        by_cases hS : C = CS
        · rw [if_pos hS] at e
          subst hS
          refine ⟨false, tl.sb, (fun z => nomatch z), fun _ => ⟨true, tl.ss, fun _ => ⟨rfl, ?_⟩, (fun z => nomatch z)⟩⟩
          cases hd : fs.lookup ("index" : Str) with
          | none => rw [hd] at e; cases e
          | some d =>
            rw [hd] at e
            cases e
            rcases rx with ⟨rfl, _⟩ | ⟨dd, gs, rfl, h2, h3, h4⟩
            · cases hd
            · obtain ⟨v, q3, q4⟩ := h4.look hd
              refine ⟨dd, gs, v, rfl, h2, q3, fun a ha => ?_⟩
              refine p (.ref a) _ (r3.same (same_upd ha)) (f3.trans (Fr.of (same_upd ha))) ?_
              refine .tup (.inl (.inl (cut_upd (r3.new ha)))) (.cons (.str _) (.cons ?_ .nil))
              exact Dp.mono ((Fr.of (same_upd ha) : Fr M _ _).cut r3.sub) _ _ q4
        · rw [if_neg hS] at e; cases e
end
end Pd
end
section
set_option Elab.async false
set_option linter.all false
set_option maxRecDepth 100000
set_option maxHeartbeats 4000000
namespace Pd
open PySem PySem.Spec PyProof.Rows L2
/-- a def that tells what a lambda gives, as it stands behind the top -/
structure ToldF (K : PySem.W.Frag) (mg : Str → Option Value) (CB CS : Addr) (x a b n : Str) (bg : List Stmt) (sg : Scope) : Prop where
  ex : ∃ (g : Addr) (pg : Arguments) (dV kV doc pm cdv ct oc : Value) (an od : Option Addr) (osl : Array (Option Value)), mg x = some (.ref g) ∧ PySem.W.keepIn K (.ref g) = true ∧ K.lookup g = some ⟨oc, od, .func (PySem.W.fnOf x x pg bg sg dV kV doc pm an cdv ct), osl⟩ ∧
    PySem.W.codeIn K cdv x = true ∧ L2.Binds K (PySem.W.fnOf x x pg bg sg dV kV doc pm an cdv ct) [a, b] []
  bd : ∃ (e1 e2 : Str) (j k1 k2 : Nat) (p1 p2 p3 p4 p5 p6 p7 p8 p9 p10 p11 p12 p13 p14 p15 p16 p17 : Pos), bg = [.Try [.Return (some (.Call (.Name a p1) [] [] p2)) p3] [.ExceptHandler (some (.Name e1 p4)) none [.Return (some (.Tuple [.Name b p5, .Constant .none j p6] k1 p7)) p8] p9,
      .ExceptHandler (some (.Name e2 p10)) (some n) [.Return (some (.Tuple [.Name b p11, .Attribute (.Name n p12) "index" p13] k2 p14)) p15] p16] [] [] p17] ∧
      sg.names.lookup e1 = some .globalImplicit ∧ mg e1 = some (.ref CB) ∧ (e1 == ("__debug__" : Str)) = false ∧ sg.names.lookup e2 = some .globalImplicit ∧ mg e2 = some (.ref CS) ∧ (e2 == ("__debug__" : Str)) = false
  sc : FnScope [a, b, n] [a, b] sg
  la : sg.names.lookup a = some .local
  lb : sg.names.lookup b = some .local
  ln : sg.names.lookup n = some .local
  tc : TldC K CB CS
  xf : XfC K CS
  no : PySem.W.findIn K (.ref CS) "index" = some none
section
variable {X : Cx} {E : Wish}
theorem pd_toldB {CB CS : Addr} {x a b n word : Str} {bg : List Stmt} {sg : Scope} {params : Arguments} {body : Expr} {scope : Scope} {p lpos wpos pos : Pos} {j} {k : Nat} {c P : Addr} {f : Mo SV} (F : ToldF X.K X.mg CB CS x a b n bg sg) (hg : Gl X x)
    (TB : LamX.TabB X.base X.mg c P) (hcode : X.env.code = .ref c) (hm : (P, X.env.qual ++ "<lambda>") ∈ E.tbs) (hu : ∀ p ∈ E.tbs, p.1 = P → p.2 = X.env.qual ++ "<lambda>") (hr : Room (k + 2) X.A)
    (hbody : ∀ (A : Around) (outer : List Env) (s : Shared) (H : Hp) (E' : XK) (f' c' : Addr), Room k (A.deeper (LamX.lamEnv X scope s.heap.objs.size f' c')) → PDE (LamX.lamCx X A outer s H E' scope f' c') ⟨E', E.tbs⟩ body f)
    (L : LamX.LamS X.env.scope scope) (hdef : defaultsOf params X.env = ([], []))
    (hbind : ∀ (q : Str) (cl : List (Str × Addr)) (pm cv ctv : Value), bindArgs (PySem.W.kla_fn "<lambda>" q params body scope cl pm cv ctv) ⟨[], []⟩ = pure [])
    (hdb : (x == ("__debug__" : Str)) = false := by decide) (hda : (a == ("__debug__" : Str)) = false := by decide) (hca : (a == ("__classdict__" : Str)) = false := by decide) (hdw : (b == ("__debug__" : Str)) = false := by decide) (hcw : (b == ("__classdict__" : Str)) = false := by decide)
    (hdn : (n == ("__debug__" : Str)) = false := by decide) (hcn : (n == ("__classdict__" : Str)) = false := by decide) :
    PDE X E (.Call (.Name x p) [.Lambda params body scope lpos, .Constant (.str word) j wpos] [] pos) (toldB CB CS word f) := by
  obtain ⟨g, pg, dV, kV, doc, pm, cdv, ct, oc, an, od, osl, h1, h2, h3, h4, h5⟩ := F.ex
  obtain ⟨e1, e2, j', k1, k2, q1, q2, q3, q4, q5, q6, q7, q8, q9, q10, q11, q12, q13, q14, q15, q16, q17, rfl, g1, m1, d1, g2, m2, d2⟩ := F.bd
  refine ⟨_, pe_lamcall3 (TT := TTold2 X.K CB CS word) (t := fun E' => tOf X.K ⟨E', E.tbs⟩ f) hg h1 h2 h3 h4 h5 F.sc rfl (.inl F.la) ?_ TB hcode hr L hdef hbind (fun A outer s H E' f' c' hr' => (hbody A outer s H E' f' c' hr').uni) hdb hda hca, told_sat F.tc hm hu⟩
  exact told_gives2 g1 m1 d1 g2 m2 d2 F.lb F.ln F.sc.nd F.xf F.no hdw hcw hdn hcn
end
end Pd
end
section
set_option Elab.async false
set_option linter.all false
set_option maxRecDepth 100000
set_option maxHeartbeats 4000000
namespace Pd
open PySem PySem.Spec PyProof.Rows L2
/-! ### an own error's __init__(self, x): super().__init__(text), then self.f = x -/
section
variable {prog : Program} {w : World} {A : Around} {E : Value → Shared → Prop} {h : Heap} {g : Array GenState} {d : Drawn} {t : Nat} {os : OsState}
variable {nm q : Str} {C N : Addr} {bs bm : List Value} {hdct : Bool} {sn : List Str} {sub : List Value} {ab : Bool} {col : Option Bool} {dd : Option Addr} {k0 k1 k2 k3 k5 : Option Value}
theorem call_mwVE {u e t0 : Addr} {rest : List Value} {Q : Value → Shared → Prop} (hC : h.get? C = some (excClassObj nm q C N bs bm hdct sn sub ab col dd k0 k1 k2 k3 k5 "ValueError.__new__")) (he : h.get? e = some (HandSPX.excO C t0)) (hu : h.get? u = some (PySem.W.kxs_mw "ValueError.__init__" e)) (hz : rest.length ≤ sizeLine)
    (hq : ∀ h' t1, (∀ b o, b ≠ e → h.get? b = some o → h'.get? b = some o) → h'.get? e = some (HandSPX.excO C t1) → Q .none ⟨h', g, d, t, os⟩) : wpAny (model prog w) A (call (.ref u) rest) Q E ⟨h, g, d, t, os⟩ := by
  refine wpAny_call (codeAny_of_tree ?_)
  show wpAny _ A.in1 (callAny (.ref u) ⟨rest, []⟩) _ _ _
  simp only [callAny]
  refine wpAny_bind (wpAny_load hu ?_)
  simp only [PySem.W.kxs_mw]
  refine PySem.W.KFB.if_so (by decide) ?_
  refine wpAny_bind (PySem.W.check_bound_init F.excBase_ValueError.toExcCallFacts hC he rfl ?_)
  refine wpAny_bind (wpAny_pure (wpAny_pure ⟨plainId_quiet F.excBase_ValueError.init.plain _, codeAny_builtin F.excBase_ValueError.initEntry ?_⟩))
  rw [Around.under_plainId F.excBase_ValueError.init.plain _]
  wp_walk
  refine hq _ h.objs.size (fun b o hb ho => ?_) ?_
  · rw [Heap.get?_update_other _ _ (Ne.symm hb)]; exact Heap.get?_push_of_some _ ho
  · rw [Heap.get?_update_self _ (Heap.get?_push_of_some _ he) rfl]; rfl
end
/-- the body's context: its class stands in a cell -/
def supCx (CX : CXT) (P : Program) (w : World) (K : PySem.W.Frag) (mg : Str → Option Value) (base : Heap) (N : List Str) (q : Str) (sc : Scope) (f cda cc : Addr) (A : Around) (outer : List Env) (s : Shared) (H : Hp) (E : XK) : Cx where
  prog := P
  w := w
  K := K
  mg := mg
  base := base
  A := A.deeper (PySem.W.ksEnv q sc s.heap.objs.size f (.ref cda) cc)
  N := N
  s_0 := s
  H_0 := H
  env := PySem.W.ksEnv q sc s.heap.objs.size f (.ref cda) cc
  outer := outer
  stack := PySem.W.ksEnv q sc s.heap.objs.size f (.ref cda) cc :: outer
  ex := []
  calm := true
  fn := fun x => x != "__class__"
  pn := []
  xe := fun e s' => wpAny (model P w) (A.deeper (PySem.W.ksEnv q sc s.heap.objs.size f (.ref cda) cc)) (leaving (PySem.W.ksEnv q sc s.heap.objs.size f (.ref cda) cc) e) (fun _ s'' => CX outer H s E e s'') (fun e' s'' => CX outer H s E e' s'') s'
section
variable {CX : CXT} {P : Program} {w : World} {K : PySem.W.Frag} {mg : Str → Option Value} {base : Heap} {q : Str} {sc : Scope} {f cda cc : Addr} {A : Around} {outer : List Env} {s : Shared} {H : Hp} {E : XK} {x0 x1 : Str} {u0 u1 : Value} {v0 v1 : V}
theorem inv_sup {cl : Value} {cld : Option Addr} {cv : Value} {csl : Array (Option Value)} {h1 : Heap} {tk : Nat} (hk : sc.kind = .function) (l0 : sc.names.lookup x0 = some .local) (l1 : sc.names.lookup x1 = some .local) (nc : ∀ y ∈ sc.names, y.2 ≠ .cell) (nf : ∀ y ∈ sc.names, y.2 = .free → y.1 = ("__class__" : Str))
    (hcc : K.lookup cc = some ⟨cl, cld, .cell (some cv), csl⟩) (hd : A.handled = none) (e0 : Env0 P w K mg base A outer s H) (r0 : RelV v0 u0) (r1 : RelV v1 u1) (ne : x0 ≠ x1)
    (hns : h1.Ns s.heap.objs.size (fun x => ([(x0, u0), (x1, u1)] : List (Str × Value)).reverse.lookup x)) (kp : ∀ b o, s.heap.get? b = some o → h1.get? b = some o) :
    Inv (supCx CX P w K mg base [x0, x1] q sc f cda cc A outer s H E) [] [some v0, some v1] H { s with heap := h1, toks := tk } := by
  have KX : K.In s.heap := e0.mod.kin.keeps fun b o e => (e0.bs b o e).1
  have noA : ∀ b : Addr, b ∉ (supCx CX P w K mg base [x0, x1] q sc f cda cc A outer s H E).ex := fun b z => absurd (show b ∈ ([] : List Addr) from z) (by simp)
  have one : ∀ {x : Str} {c : Addr}, List.lookup x [(("__class__" : Str), cc)] = some c → x = ("__class__" : Str) ∧ c = cc := fun {x c} z => by
    rw [List.lookup_cons] at z
    split at z
    · rename_i e; cases z; exact ⟨beq_iff_eq.mp e, rfl⟩
    · cases z
  have cB : base.get? cc = some ⟨cl, cld, .cell (some cv), csl⟩ := e0.mod.kin _ _ hcc
  have ne' : (x0 == x1) = false := by simpa using ne
  refine ⟨⟨e0.mod, hk, rfl, rfl, Nat.le_refl _, fun x y c h1 h2 => (one h1).1.trans (one h2).1.symm, fun y hy => ?_, fun y c h1 h2 => ?_, fun _ => hd, Around.frames_deeper e0.frames, .inr ⟨rfl, rfl⟩, fun b z => absurd z (noA b), e0.bs, e0.bsz, fun b _ _ => noA b, fun b z => absurd z (noA b), e0.funs, e0.frf⟩,
    rfl, e0.bare, Un.kept kp, ⟨_, hns, fun i y v e1 e2 e3 => ?_⟩, fun y c e => ?_, e0.hok.fresh (Nat.le_refl _), fun y c e => ?_, fun p hp => absurd (show p ∈ ([] : List (Addr × Obj)) from hp) (by simp), e0.hok.kept kp, rfl⟩
  · rcases hy with hy | hy
    · exact absurd rfl (nc _ (PySem.mem_of_lookup hy))
    · have e := nf _ (PySem.mem_of_lookup hy) rfl
      exact ⟨cc, by rw [show y = ("__class__" : Str) from e]; rfl⟩
  · rw [(one h2).1] at h1
    exact absurd (show (("__class__" : Str) != ("__class__" : Str)) = true from h1) (by decide)
  · match i, e1, e2 with
    | 0, e1, e2 =>
      cases e1; cases e2
      refine ⟨u0, r0, .inl ⟨l0, ?_⟩⟩
      show List.lookup x0 [(x1, u1), (x0, u0)] = _
      rw [List.lookup_cons, ne', List.lookup_cons, beq_self_eq_true]
    | 1, e1, e2 =>
      cases e1; cases e2
      refine ⟨u1, r1, .inl ⟨l1, ?_⟩⟩
      show List.lookup x1 [(x1, u1), (x0, u0)] = _
      rw [List.lookup_cons, beq_self_eq_true]
    | i + 2, e1, e2 => simp [supCx] at e1
  · rw [(one e).2]; exact ⟨some cv, ⟨_, kp _ _ (e0.bs _ _ cB).1, rfl⟩⟩
  · rw [(one e).2]; exact (e0.bs _ _ cB).2
def spSup (CS : Addr) (fld : Str) : Sp := fun vs H Q _ => ∃ (a : Addr) (v : V), vs = [.ref a, v] ∧ H a = some (exo a CS none) ∧ ∀ dx, H dx = none → dx ≠ a → Q .non (upd (upd H dx (exd dx [(fld, v)])) a (exo a CS (some dx)))
theorem fn_sup {k : Nat} {nm fld msg : Str} {params : Arguments} {body : List Stmt} {dV kV doc pm ct oc cl ccl : Value} {an od cld cdd : Option Addr} {osl csl ccs : Array (Option Value)} {vs : Array Value} {file : Str} {tf : Tok} {CS : Addr} {ar : PySem.Arg} {j : Nat} {p0 p1 p2 p3 p4 p5 p6 p7 p8 p9 : Pos}
    {pl : Env → Sem Bool}
    (lk : K.lookup f = some ⟨oc, od, .func (PySem.W.ksFn nm q params body sc dV kV doc pm an (.ref cda) ct cc), osl⟩) (hcd : PySem.W.codeIn K (.ref cda) q = true)
    (hb0 : body = [.Expr (.Call (.Attribute (.Call (.Name "super" p0) [] [] p1) "__init__" p2) [.Constant (.str msg) j p3] [] p4) p5, .Assign [.Attribute (.Name x0 p6) fld p7] (.Name x1 p8) p9])
    (har : (params.posonlyargs ++ params.args).head? = some ar) (ha0 : ar.arg = x0)
    (hk : sc.kind = .function) (hco : sc.isCoroutine = false) (hgn : sc.isGenerator = false) (l0 : sc.names.lookup x0 = some .local) (l1 : sc.names.lookup x1 = some .local) (ls : sc.names.lookup ("super" : Str) = some .globalImplicit) (lc : sc.names.lookup ("__class__" : Str) = some .free)
    (nc : ∀ y ∈ sc.names, y.2 ≠ .cell) (nf : ∀ y ∈ sc.names, y.2 = .free → y.1 = ("__class__" : Str)) (ne : x0 ≠ x1)
    (hcode : K.lookup cda = some ⟨ccl, cdd, .fields vs, ccs⟩) (hvs : vs[2]? = some (.str file tf)) (hfile : ((P.main.file : Str) == file) = true) (htop : (P.main.scope.names.lookup ("super" : Str)).isSome = false) (hms : mg "super" = none)
    (hcc : K.lookup cc = some ⟨cl, cld, .cell (some (.ref CS)), csl⟩) (T : OexC K CS) (hm : PySem.W.ks_superIn K CS CS "__init__" = some (some (.builtin "ValueError.__init__"))) (ho : PySem.W.nsIn K cStatics "thirdparty.any" = some none)
    (hB : PySem.W.subIn K (.ref CS) (.type "ValueError") = some true) (hself : PySem.W.mroIn K CS (.ref CS) = some true) (hno : PySem.W.findIn K (.ref CS) fld = some none)
    (hdx0 : (x0 == ("__debug__" : Str)) = false) (hcx0 : (x0 == ("__classdict__" : Str)) = false) (hdx1 : (x1 == ("__debug__" : Str)) = false) (hcx1 : (x1 == ("__classdict__" : Str)) = false)
    (he : ∀ env : Env, eval (.Call (.Attribute (.Call (.Name "super" p0) [] [] p1) "__init__" p2) [.Constant (.str msg) j p3] [] p4) env = (do
      let ov ← attributeBase (.Call (.Name "super" p0) [] [] p1) "__init__" env (eval (.Call (.Name "super" p0) [] [] p1) env)
      standAt p2.atName
      let (f, first) ← holding [ov] (getMethod ov "__init__" (pl env))
      callWith p4 f first (backTo p4 (starEach [.Constant (.str msg) j p3] env)) []))
    (hi : ∀ env : Env, swapsWith (.Call (.Attribute (.Call (.Name "super" p0) [] [] p1) "__init__" p2) [.Constant (.str msg) j p3] [] p4) none p5.line env = pure false) (hsw : ∀ env : Env, swapsWith (.Name x1 p8) (some (.Attribute (.Name x0 p6) fld p7)) p9.line env = pure false) :
    FnOk P w K mg base CX (k + 1) f (PySem.W.ksFn nm q params body sc dV kV doc pm an (.ref cda) ct cc) [x0, x1] (spSup CS fld) := by
  refine ⟨fun vs H Q E ⟨a, v, e, _⟩ => by rw [e]; rfl, fun A outer s H args us vs Q E hr e0 hb r hsp => ?_⟩
  obtain ⟨a, v, rfl, ea, fin⟩ := hsp
  cases r with
  | @cons _ u0 _ us1 r0 r =>
  cases r with
  | @cons _ u1 _ us2 r1 r =>
  cases r
  obtain rfl : u0 = Value.ref a := r0
  have KX : K.In s.heap := e0.mod.kin.keeps fun b o e => (e0.bs b o e).1
  have lim : s.heap.NoLimit := e0.mod.nolimit.keeps fun b o e => (e0.bs b o e).1
  refine ks_codeAny_call_defAt hr.depth (KX _ _ lk) rfl lim (PySem.W.codeRec_of KX hcd) rfl hb nc (fun y hy => ?_) (fun h1 hns kp => ?_) hco hgn hk
  · have hy : y ∈ [(x0, Value.ref a), (x1, u1)] := hy
    simp only [List.mem_cons, List.not_mem_nil, or_false] at hy
    rcases hy with rfl | rfl
    · exact l0
    · exact l1
  have I : Inv (supCx CX P w K mg base [x0, x1] q sc f cda cc A outer s H E) [] [some (.ref a), some v] H { s with heap := h1, toks := s.toks + 2 } := inv_sup hk l0 l1 nc nf hcc hr.hd e0 rfl r1 ne hns kp
  subst hb0
  have X1 : K.In h1 := KX.keeps kp
  obtain ⟨nmC, qC, NC, bs, bm, sn, sub, ab, col, dd, k0, k1, k2, k3, k5, hC, hbm⟩ := T.cls
  obtain ⟨t0, hxe⟩ := exo_at I.hok ea
  have hcl : PySem.W.clsIn K CS = some { name := nmC, bases := bs, mro := .ref CS :: bm, ns := NC, qualname := qC, hasDict := true, slotNames := sn, subclasses := sub, abstract := ab, collection := col, hasDel := false } := by unfold PySem.W.clsIn; rw [hC] <;> rfl
  have hD1 := X1 _ _ hC
  have LI : PySem.W.InstAt h1 a { cls := .ref CS, dict := none, data := .fields #[.ref t0, .none, .none, .none, .bool false, .none] } CS none := ⟨hxe, rfl, rfl, trivial⟩
  have at0 : (fun x => List.lookup x ([(x0, Value.ref a), (x1, u1)] : List (Str × Value)).reverse) x0 = some (.ref a) := by
    show List.lookup x0 [(x1, u1), (x0, Value.ref a)] = _
    rw [List.lookup_cons, show (x0 == x1) = false by simpa using ne, List.lookup_cons, beq_self_eq_true]
  show _root_.PySem.wpAt (model P w) (A.deeper (PySem.W.ksEnv q sc s.heap.objs.size f (.ref cda) cc)) (.func _ (PySem.W.ksEnv q sc s.heap.objs.size f (.ref cda) cc)) (execs _ (PySem.W.ksEnv q sc s.heap.objs.size f (.ref cda) cc)) _ _ _
  refine ks_wpAt_execs_cons (ks_wpAt_Expr_any (hi := by unfold interactive; simp [hk]) (hs := hi _) (ks_wpAt_MethodCall (he := he _) (ks_wpAt_super_base (fd := PySem.W.ksFn nm q params _ sc dV kV doc pm an (.ref cda) ct cc) ls lc (by decide) rfl (X1 _ _ lk) rfl har rfl (X1 _ _ hcode) rfl hvs hfile htop ?_)))
  obtain ⟨mb, b1, b2⟩ := I.mod.blt
  refine PySem.W.ks_loadName_global hk ls (Calls.loadGlobal_builtin (env := PySem.W.ksEnv q sc s.heap.objs.size f (.ref cda) cc) (I.mod.glob.keeps I.bk) hms (b1.keeps I.bk) ((b2 "super" (by decide)).trans (by decide +kernel)) ⟨rfl, ?_⟩)
  refine wpAny_loadName_free hk lc rfl ⟨_, X1 _ _ hcc, rfl⟩ ?_
  rw [ha0]
  refine wpAny_loadName_local hk l0 hns at0 ?_
  refine ks_wpAny_isType_cls hD1 rfl ⟨rfl, ?_⟩
  refine ks_wpAny_call_super hD1 rfl hxe rfl (fun c e => by cases e) (PySem.W.looks_mroIn X1 hself) (fun h2 e2 k2 => ?_)
  have X2 := X1.keeps k2
  have LM : PySem.W.Looks (model P w) h2 (mroOf (.ref CS)) (.ref CS :: bm) := fun A Q E s k q => wpAny_bind ((PySem.W.looks_clsIn X2 hcl) A _ E s k (wpAny_pure q))
  have hal : PySem.W.alongIn K "__init__" (((Value.ref CS :: bm).dropWhile (· != .ref CS)).drop 1) = some (some (.builtin "ValueError.__init__")) := by
    unfold PySem.W.ks_superIn at hm
    rw [hcl] at hm
    exact hm
  have hI : PySem.W.Looks (model P w) h1 (isInstance (.ref a) (.type "ValueError")) true := LI.type.andThen (PySem.W.looks_subIn X1 hB)
  refine PySem.W.kxs_getMethod PySem.W.kxs_ValueError e2 (PySem.W.looks_opaque X2 ho) LM rfl X2 hal (hI.keeps k2) (PySem.W.ks_ne X1 LI hcl) (by decide) ?_
  have k3 : ∀ b o, h1.get? b = some o → (h2.push (PySem.W.kxs_mw "ValueError.__init__" a)).get? b = some o := fun b o e => Heap.get?_push_of_some _ (k2 b o e)
  refine PySem.W.kxs_callWith (i := "ValueError.__init__") (x := a) (by rfl) (Calls.evalArgs_plain ?_)
  show wpAny _ _ (spliced ((false, eval (.Constant (.str msg) j p3) (PySem.W.ksEnv q sc s.heap.objs.size f (.ref cda) cc)) :: backTo p4 (starEach [] (PySem.W.ksEnv q sc s.heap.objs.size f (.ref cda) cc)))) _ _ _
  refine Calls.spliced_cons (Calls.Constant_str (Calls.spliced_nil ⟨Heap.get?_push_at rfl rfl, ?_⟩))
  refine call_mwVE (C := CS) (e := a) (t0 := t0) (X1.keeps k3 _ _ hC) (k3 _ _ hxe) (Heap.get?_push_at rfl rfl) (le1000 (by simp)) (fun h4 t1 k4 hx4 => ?_)
  have I2 := I.kept (t' := s.toks + 2 + 1 + 1) k3
  have J := I2.write (t' := s.toks + 2 + 1 + 1) (x := a) (e := a) (o := exo a CS none) (by rw [ea]; exact True.intro) (.inl rfl) k4 ⟨_, hx4⟩ (exo_ok hx4)
  have eu : upd H a (exo a CS none) = H := by
    funext b
    by_cases hb : b = a
    · rw [hb, upd_same, ea]
    · rw [upd_ne hb]
  rw [eu] at J
  refine wpAt_of_wpAny (wpAny_mono ((pss_one (ps_ost (pe_var (i := 0) rfl (.inl l0) hdx0 hcx0) (pe_var (i := 1) rfl (.inl l1) hdx1 hcx1) (hsw _))).run [] _ [some (.ref a), some v] H { nx := fun _ H' => Q .non H', rt := Q } J
    ⟨v, rfl, .ref a, rfl, a, CS, rfl, T, hno, .inl ⟨ea, fun dx n ne => fin dx n ne⟩⟩) (fun fl s' hs => ?_) fun e s' hs => hs)
  cases fl with
  | next =>
    obtain ⟨σ', H', J', q⟩ := hs
    exact ⟨.non, H', J'.os, J'.bare, J'.base, J'.hok, rfl, q⟩
  | ret u =>
    obtain ⟨v', σ', H', J', rv, q⟩ := hs
    exact ⟨v', H', J'.os, J'.bare, J'.base, J'.hok, rv, q⟩
  | brk => obtain ⟨_, _, _, q⟩ := hs; exact False.elim q
  | cont => obtain ⟨_, _, _, q⟩ := hs; exact False.elim q
end
end Pd
end
section
set_option Elab.async false
set_option linter.all false
set_option maxRecDepth 100000
set_option maxHeartbeats 4000000
namespace Pd
open PySem PySem.Spec PyProof.Rows L2
/-- an own class of errors that is made of one value, kept as fld -/
structure RaiS (P : Program) (w : World) (K : PySem.W.Frag) (mg : Str → Option Value) (base : Heap) (CS : Addr) (fld : Str) : Prop where
  ex : ∃ (fI : Addr) (fd : FuncData) (x0 x1 : Str), OexC K CS ∧ PySem.W.findIn K (.ref CS) "__init__" = some (some (.ref fI)) ∧ PySem.W.typeIn K (.ref fI) = some (.type "function") ∧ FnOk P w K mg base (L2.CX P w) 1 fI fd [x0, x1] (spSup CS fld) ∧ L2.Binds K fd [x0, x1] []
section
variable {X : Cx} {E : Wish} {pos : Pos} {np : Nat}
theorem pds_raiseS {CS : Addr} {x : Str} {e : Expr} {p p3 : Pos} {k : Nat} {f : Mo SV} (tk : TkW X E) (hc : X.calm = true) (hg : Gl X x) (gC : X.mg x = some (.ref CS)) (h : RaiS X.prog X.w X.K X.mg X.base CS "index") (hr : Room k X.A) (hk : 2 ≤ k) (he : PDE X E e f)
    (hdb : (x == ("__debug__" : Str)) = false := by decide) (hst : starEach [e] X.env = (false, eval e X.env) :: starEach [] X.env := by rfl) :
    PDS X np E (.Raise (some (.Call (.Name x p) [e] [] p3)) none pos) (raiseS CS (idxM f)) := by
  obtain ⟨fI, fd, x0, x1, T, iC, tI, F, hb⟩ := h.ex
  obtain ⟨t, h1, h2⟩ := he
  have hx : Passes (L2.CX X.prog X.w) X (fun _ _ _ => False) := passes_call tk.p fun _ _ _ _ z => z.elim
  refine ⟨_, ps_raise hc tk.p (pmk_oex T iC tI F (hr.mono hk) hb .nil hx hg gC (pa_cons h1 pa_nil hst) hdb hst), fun Tn O M env σ H D o hK hP r ee p => ?_⟩
  have e2 : withE (idxM f) (fun fs _ => some (.exc CS fs)) env = some o := ee
  refine h2.within (k := fun x env => match x with
    | .da d => some (.exc CS [("index", d)])
    | _ => none) (Q := fun y H1 => tNil σ H1 fun ys H2 => (y :: ys).length ≤ 1000 ∧ ∀ a, H2 a = none → spSup CS "index" (.ref a :: ((y :: ys) ++ [])) (upd H2 a (exo a CS none)) (fun v H3 => v = .non ∧ ∃ (d : Addr) (fs : List (Str × V)), H3 a = some (exo a CS (some d)) ∧ H3 d = some (exd d fs) ∧ H2 d = none ∧ E.xk (.ref CS) (some d) (upd (del H3 a) d (.xd fs))) (fun _ _ _ => False)) hK r ?_ p fun y e1 v H' ek r' p' rp s => ?_
  · unfold withE at e2 ⊢
    unfold idxM bindM at e2
    cases q : f env with
    | none => rw [q] at e2; cases e2
    | some o1 =>
      rw [q] at e2
      cases o1 with
      | exc C fs => exact e2
      | ok y e1 =>
        cases y with
        | da d => exact e2
        | obj C fs => cases e2
        | own ds => cases e2
        | dic ds => cases e2
  · cases y with
    | obj C fs => cases ek
    | own ds => cases ek
    | dic ds => cases ek
    | da d =>
      cases ek
      refine ⟨by simp, fun a ha => ⟨a, v, rfl, upd_same, fun dx hdx ne => ⟨rfl, dx, [("index", v)], upd_same, by rw [upd_ne ne, upd_same], ?_, ?_⟩⟩⟩
      · rw [upd_ne ne] at hdx; exact hdx
      · have hdx' : H' dx = none := by rw [upd_ne ne] at hdx; exact hdx
        have sm : Same H' (upd (del (upd (upd (upd H' a (exo a CS none)) dx (exd dx [("index", v)])) a (exo a CS (some dx))) a) dx (.xd [("index", v)])) := fun b o e => by
          have n1 := ne_of_none e ha
          have n2 := ne_of_none e hdx'
          rw [upd_ne n2, del_ne n1, upd_ne n1, upd_ne n2, upd_ne n1]
          exact e
        have r2 := r'.same sm
        refine p' (some dx) _ (r2.frT Fr.refl) r2.tabs (.inr ⟨dx, [("index", v)], rfl, upd_same, fun z => r'.new hdx' (r'.ent _ z), ?_⟩)
        refine .cons ⟨rfl, ?_⟩ .nil
        refine Dp.mono (cut_same (fun b o e n => sm b o e) fun b o e z => r'.ent b z) _ _ rp
end
end Pd
end
section
set_option Elab.async false
set_option linter.all false
set_option maxRecDepth 100000
set_option maxHeartbeats 4000000
namespace Pd
open PySem PySem.Spec PyProof.Rows L2
/-! ### an instance made of values and keywords -/
/-- C's __init__: the new instance at x gets the fields that F gives -/
def spMk (K : PySem.W.Frag) (tbs : List (Addr × Str)) (C : Addr) (F : List SV → Option (List (Str × PyData))) : Sp := fun vs H Q E => ∃ (O : List Addr) (x dx : Addr) (vr : List V) (svs : List SV) (fs : List (Str × PyData)), vs = .ref x :: vr ∧ Live O H ∧ x ∈ O ∧ x ∉ tbs.map (·.1) ∧ H x = some (.ins C dx []) ∧
  LamX.Tabs tbs H ∧ (∀ p ∈ tbs, p.1 ∈ O) ∧ Paired (RepR K O H) vr svs ∧ F svs = some fs ∧
  ∀ H' gs, (∀ b o, H b = some o → b ≠ x → b ∉ tbs.map (·.1) → H' b = some o) → LamX.Tabs tbs H' → H' x = some (.ins C dx gs) → RepF K (cut O H') gs fs → Q .non H'
structure MkF (P : Program) (w : World) (K : PySem.W.Frag) (mg : Str → Option Value) (base : Heap) (tbs : List (Addr × Str)) (C : Addr) (F : List SV → Option (List (Str × PyData))) (k n : Nat) (ks : List Str) : Prop where
  ex : ∃ (fI : Addr) (fd : FuncData) (ps : List Str), Mk K C fI ∧ FnOk P w K mg base (L2.CX P w) k fI fd ps (spMk K tbs C F) ∧ KBn K fd ps (n + 1) ks (fun us ws => us ++ ws) (fun us ws => us ++ ws)
def makeKM (C : Addr) (n m : Nat) (F : List SV → Option (List (Str × PyData))) (fa fk : Mo (List Arg)) : Mo SV :=
  bindM fa fun as => bindM (liftO (vals as)) fun svs => bindM fk fun ks => liftO ((vals ks).bind fun zs => if svs.length = n ∧ zs.length = m then (F (svs ++ zs)).map fun fs => .obj C fs else none)
section
variable {X : Cx} {E : Wish} {pos : Pos} {np : Nat}
def PDK (X : Cx) (E : Wish) (kws : List Keyword) (f : Mo (List Arg)) : Prop := ∃ t, PK X kws t ∧ SatA X.K E t f
theorem pdk_nil : PDK X E [] (retM []) := ⟨_, pk_nil, fun T O M env σ H Q o hK r e p => by
  cases e
  exact p [] H r Fr.refl .nil⟩
theorem pdk_cons {nm : Option Str} {e : Expr} {kpos : Pos} {kws : List Keyword} {f : Mo SV} {g : Mo (List Arg)} (h : PDE X E e f) (hr : PDK X E kws g) : PDK X E (⟨nm, e, kpos⟩ :: kws) (consM f g) := by
  obtain ⟨t, h1, h2⟩ := h
  obtain ⟨u, u1, u2⟩ := hr
  refine ⟨_, pk_cons h1 u1, fun T O M env σ H Q o hK rr ee p => ?_⟩
  refine h2.bind (Q := fun x H1 => u σ H1 fun xs H2 => Q (x :: xs) H2) hK rr ee p.exc fun x e1 v H1 ek r1 f1 p1 => ?_
  refine u2.bind (Q := fun xs H2 => Q (v :: xs) H2) hK r1 ek (p.shift f1).exc fun y e2 us H2 ek2 r2 f2 p2 => ?_
  cases ek2
  exact p _ H2 r2 (f1.trans f2) (.cons (show RepR T.K O H2 v x from p1.fr f2 r2.sub) p2)
theorem Paired.catP {α β : Type} {Rr : α → β → Prop} {as cs : List α} {bs ds : List β} (h : Paired Rr as bs) (g : Paired Rr cs ds) : Paired Rr (as ++ cs) (bs ++ ds) := by
  induction h with
  | nil => exact g
  | cons r _ ih => exact .cons r ih
theorem pd_makeK {C : Addr} {F : List SV → Option (List (Str × PyData))} {k n j : Nat} {ks : List Str} {x : Str} {e : Expr} {es : List Expr} {kws : List Keyword} {p : Pos} {fa fk : Mo (List Arg)} (B : MkF X.prog X.w X.K X.mg X.base E.tbs C F k n ks) (hr : Room j X.A) (hk : k + 1 ≤ j) (hg : Gl X x) (hm : X.mg x = some (.ref C)) (pas : PasW X E)
    (ha : PDA X E (e :: es) fa) (hkw : PDK X E kws fk)
    (hall : (backToKw pos (keywordEach kws X.env)).all (·.1.isSome) = true := by rfl) (hks : (backToKw pos (keywordEach kws X.env)).filterMap (·.1) = ks := by rfl) (hdb : (x == ("__debug__" : Str)) = false := by decide)
    (he : starEach (e :: es) X.env = (false, eval e X.env) :: starEach es X.env := by rfl) (hpl : ((backTo pos (starEach (e :: es) X.env)).any (·.1) || (backToKw pos (keywordEach kws X.env)).any (·.1.isNone)) = false := by rfl) :
    PDE X E (.Call (.Name x p) (e :: es) kws pos) (makeKM C n ks.length F fa fk) := by
  obtain ⟨fI, fd, ps, M, fn, hb⟩ := B.ex
  obtain ⟨t, h1, h2⟩ := ha
  obtain ⟨u, u1, u2⟩ := hkw
  refine ⟨_, pe_makeK M fn (hr.mono hk) hg hm hb pas.p h1 u1 hall hks hdb he hpl, fun T O Mo env σ H Q o hK rr ee p => ?_⟩
  have ee : bindM fa (fun as => bindM (liftO (vals as)) fun svs => bindM fk fun zk => liftO ((vals zk).bind fun zs => if svs.length = n ∧ zs.length = ks.length then (F (svs ++ zs)).map fun fs => SV.obj C fs else none)) env = some o := ee
  refine h2.bind (Q := fun vs H1 => u σ H1 fun zs H2 => vs.length = n ∧ zs.length = ks.length ∧ ∀ x dx, H2 x = none → H2 dx = none → dx ≠ x →
      spMk X.K E.tbs C F ((.ref x :: vs) ++ zs) (upd (upd H2 dx (.own x)) x (.ins C dx [])) (fun v H3 => v = .non ∧ Q (.ref x) H3) E.xk) hK rr ee p.exc fun y e1 vs H1 ek r1 f1 p1 => ?_
  rcases bind_split ek with ⟨C', fs', q, _⟩ | ⟨svs, e1', q1, q2⟩
  · obtain ⟨_, _, z⟩ := lift_split q
    cases z
  obtain ⟨svs', hv, z⟩ := lift_split q1
  cases z
  have rv := vals_rep p1 hv
  refine u2.bind (Q := fun zs H2 => vs.length = n ∧ zs.length = ks.length ∧ ∀ x dx, H2 x = none → H2 dx = none → dx ≠ x →
      spMk X.K E.tbs C F ((.ref x :: vs) ++ zs) (upd (upd H2 dx (.own x)) x (.ins C dx [])) (fun v H3 => v = .non ∧ Q (.ref x) H3) E.xk) hK r1 q2 (p.shift f1).exc fun yk e2 zs H2 ek2 r2 f2 p2 => ?_
  obtain ⟨c, ec, z⟩ := lift_split ek2
  cases z
  cases hz : vals yk with
  | none => rw [hz] at ec; cases ec
  | some zsv =>
    rw [hz] at ec
    have rz := vals_rep p2 hz
    simp only [Option.bind_some] at ec
    split at ec
    · rename_i hl
      cases hF : F (svs ++ zsv) with
      | none => rw [hF] at ec; cases ec
      | some fs =>
        rw [hF] at ec
        cases ec
        refine ⟨(Paired.length rv).trans hl.1, (Paired.length rz).trans hl.2, fun x dx hx hdx ne => ?_⟩
        have nx : ∀ {b : Addr} {o : HO}, H2 b = some o → b ≠ x := fun {b o} e => ne_of_none e hx
        have ndx : ∀ {b : Addr} {o : HO}, H2 b = some o → b ≠ dx := fun {b o} e => ne_of_none e hdx
        have sm : ∀ b o, H2 b = some o → upd (upd H2 dx (.own x)) x (.ins C dx []) b = some o := fun b o e => by rw [upd_ne (nx e), upd_ne (ndx e)]; exact e
        have ec : Same (cut O H2) (cut (x :: O) (upd (upd H2 dx (.own x)) x (.ins C dx []))) := cut_same (fun b o e _ => sm b o e) fun b o e z => by
          rcases List.mem_cons.mp z with z | z
          · exact absurd z (nx e)
          · exact z
        have xO : x ∉ O := r2.new hx
        have tO : ∀ p ∈ E.tbs, p.1 ∈ O := fun p hp => r2.sub _ (r2.tin p (by rw [hK.tb]; exact hp))
        have hT : LamX.Tabs E.tbs H2 := by have := r2.tabs; rw [hK.tb] at this; exact this
        refine ⟨x :: O, x, dx, vs ++ zs, svs ++ zsv, fs, rfl, fun l hl z => ?_, .head _, fun z => ?_, upd_same, hT.ext sm, fun p hp => .tail _ (tO p hp), ?_, hF, fun H' gs k t hx' rf => ?_⟩
        · rcases List.mem_cons.mp hl with rfl | hl
          · rw [upd_same] at z; cases z
          · cases q : H2 l with
            | none => exact r2.live l hl q
            | some o => rw [sm l o q] at z; cases z
        · obtain ⟨p', hp', e'⟩ := List.mem_map.mp z
          exact xO (by rw [← e']; exact tO p' hp')
        · refine Paired.catP ?_ ?_
          · exact Paired.mapP rv fun v s h => by
              have := h.fr f2 r2.sub
              exact RepR.mono (sv := s) ec (by rw [hK.eq] at this; exact this)
          · exact Paired.mapP rz fun v s h => RepR.mono (sv := s) ec (by rw [hK.eq] at h; exact h)
        · have rc := r2.calm (H' := H') (fun b o e n => k b o (sm b o e) (nx e) (by rw [← hK.tb]; exact n)) (by rw [hK.tb]; exact t)
          refine ⟨rfl, p (.ref x) H' rc.1 ((f1.trans f2).trans rc.2) ⟨x, dx, gs, rfl, cut_of hx' xO, ?_⟩⟩
          rw [hK.eq]
          exact rf.mono (cut_same (fun _ _ e _ => e) fun _ _ _ z => .tail _ z)
    · cases ec
end
end Pd
end
section
set_option Elab.async false
set_option linter.all false
set_option maxRecDepth 100000
set_option maxHeartbeats 4000000
namespace Pd
open PySem PySem.Spec PyProof.Rows L2
/-! ### what is read off the written part -/
abbrev FnQ : Type := Option (Str × Str × Arguments × FuncBody × Scope × Addr × List Str × Addr)
def fnAt (K : PySem.W.Frag) (g : Addr) : FnQ := match K.lookup g with
  | some ⟨_, _, .func fd, _⟩ => some (fd.name, fd.qualname, fd.params, fd.body, fd.scope, fd.globals, fd.closure.map (·.1), fd.builtins)
  | _ => none
theorem fnAt_ok {K : PySem.W.Frag} {g : Addr} {name q : Str} {params : Arguments} {body : List Stmt} {scope : Scope} {cl : List Str} (e : fnAt K g = some (name, q, params, .stmts body, scope, mainGlobals, cl, builtinsNs)) :
    ∃ (oc : Value) (od : Option Addr) (osl : Array (Option Value)) (clo : List (Str × Addr)) (dV kV doc pm cdv ct : Value) (an : Option Addr), K.lookup g = some ⟨oc, od, .func (PySem.W.fnX name q params body scope clo dV kV doc pm an cdv ct), osl⟩ ∧ clo.map (·.1) = cl := by
  unfold fnAt at e
  cases h : K.lookup g with
  | none => rw [h] at e; cases e
  | some o =>
    obtain ⟨oc, od, dt, osl⟩ := o
    rw [h] at e
    cases dt with
    | func fd =>
      obtain ⟨n1, n2, n3, n4, n5, n6, n7, n8, n9, n10, n11, n12, n13, n14, n15⟩ := fd
      have e2 : (some (n1, n2, n3, n4, n5, n6, n7.map (·.1), n15) : FnQ) = some (name, q, params, .stmts body, scope, mainGlobals, cl, builtinsNs) := e
      simp only [Option.some.injEq, Prod.mk.injEq] at e2
      obtain ⟨h1, h2, h3, h4, h5, h6, h7, h8⟩ := e2
      subst h1 h2 h3 h4 h5 h6 h8
      exact ⟨oc, od, osl, n7, n8, n9, n10, n11, n13, n14, n12, rfl, h7⟩
    | _ => cases e
/-- a getter -/
def propAt (K : PySem.W.Frag) (C : Addr) (f : Str) : Addr := match PySem.W.findIn K (.ref C) f with
  | some (some (.ref p)) => p
  | _ => 0
def getterAt (K : PySem.W.Frag) (C : Addr) (f : Str) : Addr := match PySem.W.recIn K (propAt K C f) "property" with
  | some (.ref g :: _) => g
  | _ => 0
def propB (K : PySem.W.Frag) (C : Addr) (f : Str) (q : Str) : Bool := decide (PySem.W.findIn K (.ref C) f = some (some (.ref (propAt K C f)))) && (decide (PySem.W.specialIn K (.ref (propAt K C f)) "__get__" = some (some (.builtin "property.__get__"))) && (decide (PySem.W.takesIn K (.ref (propAt K C f)) = some true) &&
  ((match PySem.W.recIn K (propAt K C f) "property" with
    | some (.ref _ :: _) => true
    | _ => false) && (match K.lookup (getterAt K C f) with
    | some ⟨_, _, .func fd, _⟩ => PySem.W.codeIn K fd.code q && decide (fd.defaults = .none)
    | _ => false))))
theorem propD_of {P : Program} {w : World} {K : PySem.W.Frag} {mg : Str → Option Value} {base : Heap} {C : Addr} {f fld q : Str} {params : Arguments} {body : List Stmt} {scope : Scope} {p1 p2 p3 : Pos} (h : propB K C f q = true) (e : fnAt K (getterAt K C f) = some (f, q, params, .stmts body, scope, mainGlobals, [], builtinsNs))
    (S : FnScope ["self"] ["self"] scope) (hb : body = [.Return (some (.Attribute (.Name "self" p1) fld p2)) p3]) (c : Cls K C) (n : NoAttr K C fld)
    (bd : ∀ (kV doc pm : Value) (an : Option Addr) (cdv ct : Value) (us : List Value), us.length = 1 → bindArgs (PySem.W.fnOf f q params body scope .none kV doc pm an cdv ct) ⟨us, []⟩ = pure ((["self"] : List Str).zip us)) : PropD P w K mg base C f fld 1 := by
  obtain ⟨oc, od, osl, clo, dV, kV, doc, pm, cdv, ct, an, lk, hcl⟩ := fnAt_ok e
  have e0 : clo = [] := List.map_eq_nil_iff.mp hcl
  subst e0
  unfold propB at h
  rw [lk] at h
  simp only [Bool.and_eq_true, decide_eq_true_eq] at h
  obtain ⟨h1, h2, h3, h4, h5, h6⟩ := h
  have h6 : dV = .none := h6
  subst h6
  refine ⟨c, propAt K C f, getterAt K C f, _, ⟨h1, h2, h3, ?_⟩, ?_, fn_getter (fa := getterAt K C f) lk h5 S rfl hb c n⟩
  · unfold getterAt
    split at h4
    · rename_i g r hr
      exact ⟨r, hr⟩
    · cases h4
  · exact .all (bd kV doc pm an cdv ct)
/-- an own class of errors -/
def oexB (K : PySem.W.Frag) (C : Addr) : Bool := (match K.lookup C with
    | some ⟨.type "type", _, .cls cd, sl⟩ => (match cd.mro, sl.toList with
      | .ref C' :: bm, [_, _, _, _, some (.builtin n), _] => decide (C' = C) && (decide (n = "ValueError.__new__") && (!cd.hasDel && (cd.hasDict && PySem.HandSPX.refsVE bm)))
      | _, _ => false)
    | _ => false) && (decide (PySem.W.findIn K (.ref C) "__setattr__" = some (some (.builtin "object.__setattr__"))) && (decide (PySem.W.subIn K (.ref C) (.type "BaseException") = some true) && (decide (PySem.W.typeIn K (.ref C) = some (.type "type")) && PySem.W.keepIn K (.ref C))))
theorem oexB_ok {K : PySem.W.Frag} {C : Addr} (h : oexB K C = true) : OexC K C := by
  unfold oexB at h
  simp only [Bool.and_eq_true, decide_eq_true_eq] at h
  obtain ⟨h0, h1, h2, h3, h4⟩ := h
  refine ⟨?_, h1, h2, h3, h4⟩
  split at h0
  · rename_i dd cd sl hl
    split at h0
    · rename_i C' bm k0 k1 k2 k3 n k5 hm hs
      simp only [Bool.and_eq_true, decide_eq_true_eq, Bool.not_eq_true'] at h0
      obtain ⟨rfl, rfl, hdel, hdict, hbm⟩ := h0
      obtain ⟨nm, bs, mro, ns, qn, hd, sn, sub, ab, col, del⟩ := cd
      dsimp only at hm hdel hdict
      subst hm hdel hdict
      have es : sl = #[k0, k1, k2, k3, some (.builtin "ValueError.__new__"), k5] := by
        rw [← Array.toList_inj, hs]
      subst es
      exact ⟨nm, qn, ns, bs, bm, sn, sub, ab, col, dd, k0, k1, k2, k3, k5, hl, hbm⟩
    · cases h0
  · cases h0
/-- an own error's __init__ that says super().__init__(text) -/
def initAt (K : PySem.W.Frag) (C : Addr) : Addr := He.ma K C "__init__"
def supB (P : Program) (K : PySem.W.Frag) (C : Addr) (fld q : Str) : Bool :=
  (decide (PySem.W.findIn K (.ref C) "__init__" = some (some (.ref (initAt K C)))) && (decide (PySem.W.typeIn K (.ref (initAt K C)) = some (.type "function")) && (match K.lookup (initAt K C) with
    | some ⟨_, _, .func fd, _⟩ => PySem.W.codeIn K fd.code q && (match fd.closure, fd.code, fd.defaults with
      | [(_, cc)], .ref cda, .ref T => (match K.lookup cc with
        | some ⟨_, _, .cell (some (.ref D)), _⟩ => decide (D = C)
        | _ => false) && ((match K.lookup cda with
        | some ⟨_, _, .fields vs, _⟩ => (match (vs[2]? : Option Value) with
          | some (.str file _) => (P.main.file : Str) == file
          | _ => false)
        | _ => false) && (match K.lookup T with
        | some ⟨_, _, .seq items _, _⟩ => decide (items.size = 1)
        | _ => false))
      | _, _, _ => false)
    | _ => false))) && (decide (PySem.W.ks_superIn K C C "__init__" = some (some (.builtin "ValueError.__init__"))) && (decide (PySem.W.nsIn K cStatics "thirdparty.any" = some none) && (decide (PySem.W.subIn K (.ref C) (.type "ValueError") = some true) &&
      (decide (PySem.W.mroIn K C (.ref C) = some true) && (decide (PySem.W.findIn K (.ref C) fld = some none) && oexB K C)))))
theorem raiS_of {P : Program} {w : World} {K : PySem.W.Frag} {mg : Str → Option Value} {base : Heap} {C : Addr} {fld q msg x0 x1 : Str} {params : Arguments} {body : List Stmt} {sc : Scope} {ar : PySem.Arg} {j : Nat} {p0 p1 p2 p3 p4 p5 p6 p7 p8 p9 : Pos} {pl : Env → Sem Bool}
    (h : supB P K C fld q = true) (e : fnAt K (initAt K C) = some (("__init__" : Str), q, params, .stmts body, sc, mainGlobals, (["__class__"] : List Str), builtinsNs))
    (hb0 : body = [.Expr (.Call (.Attribute (.Call (.Name "super" p0) [] [] p1) "__init__" p2) [.Constant (.str msg) j p3] [] p4) p5, .Assign [.Attribute (.Name x0 p6) fld p7] (.Name x1 p8) p9])
    (har : (params.posonlyargs ++ params.args).head? = some ar) (ha0 : ar.arg = x0)
    (hk : sc.kind = .function) (hco : sc.isCoroutine = false) (hgn : sc.isGenerator = false) (l0 : sc.names.lookup x0 = some .local) (l1 : sc.names.lookup x1 = some .local) (ls : sc.names.lookup ("super" : Str) = some .globalImplicit) (lc : sc.names.lookup ("__class__" : Str) = some .free)
    (nc : ∀ y ∈ sc.names, y.2 ≠ .cell) (nf : ∀ y ∈ sc.names, y.2 = .free → y.1 = ("__class__" : Str)) (ne : x0 ≠ x1)
    (htop : (P.main.scope.names.lookup ("super" : Str)).isSome = false) (hms : mg "super" = none)
    (hdx0 : (x0 == ("__debug__" : Str)) = false) (hcx0 : (x0 == ("__classdict__" : Str)) = false) (hdx1 : (x1 == ("__debug__" : Str)) = false) (hcx1 : (x1 == ("__classdict__" : Str)) = false)
    (he : ∀ env : Env, eval (.Call (.Attribute (.Call (.Name "super" p0) [] [] p1) "__init__" p2) [.Constant (.str msg) j p3] [] p4) env = (do
      let ov ← attributeBase (.Call (.Name "super" p0) [] [] p1) "__init__" env (eval (.Call (.Name "super" p0) [] [] p1) env)
      standAt p2.atName
      let (f, first) ← holding [ov] (getMethod ov "__init__" (pl env))
      callWith p4 f first (backTo p4 (starEach [.Constant (.str msg) j p3] env)) []))
    (hi : ∀ env : Env, swapsWith (.Call (.Attribute (.Call (.Name "super" p0) [] [] p1) "__init__" p2) [.Constant (.str msg) j p3] [] p4) none p5.line env = pure false) (hsw : ∀ env : Env, swapsWith (.Name x1 p8) (some (.Attribute (.Name x0 p6) fld p7)) p9.line env = pure false)
    (bd : ∀ (T : Addr) (clo : List (Str × Addr)) (kV doc pm : Value) (an : Option Addr) (cdv ct : Value) (us its : List Value), us.length = 2 → its.length = 1 →
      ∃ k, bindArgs (PySem.W.fnX "__init__" q params body sc clo (.ref T) kV doc pm an cdv ct) ⟨us, []⟩ = seqItems? (.ref T) >>= k ∧ k (some its.toArray) = pure (([x0, x1] : List Str).zip us)) : RaiS P w K mg base C fld := by
  obtain ⟨oc, od, osl, clo, dV, kV, doc, pm, cdv, ct, an, lk, hcl⟩ := fnAt_ok e
  unfold supB at h
  rw [lk] at h
  simp only [Bool.and_eq_true, decide_eq_true_eq] at h
  obtain ⟨⟨h1, h2, h3, h4⟩, h5, h6, h7, h8, h9, h10⟩ := h
  split at h4
  · rename_i x cc cda T
    have ex : x = ("__class__" : Str) := by simpa using hcl
    subst ex
    simp only [Bool.and_eq_true] at h4
    obtain ⟨k1, k2, k3⟩ := h4
    split at k1
    · rename_i q1 q2 D q3 hcc
      have k1 := of_decide_eq_true k1
      subst k1
      split at k2
      · rename_i r1 r2 vs r3 hcode
        split at k2
        · rename_i file tf hvs
          split at k3
          · rename_i s1 s2 items n s3 hT
            have k3 := of_decide_eq_true k3
            refine ⟨initAt K D, _, x0, x1, oexB_ok h10, h1, h2, fn_sup lk h3 hb0 har ha0 hk hco hgn l0 l1 ls lc nc nf ne hcode hvs k2 htop hms hcc (oexB_ok h10) h5 h6 h7 h8 h9 hdx0 hcx0 hdx1 hcx1 he hi hsw, fun s us X hl => ?_⟩
            rw [List.append_nil] at hl ⊢
            obtain ⟨k, b1, b2⟩ := bd T [(("__class__" : Str), cc)] kV doc pm an (.ref cda) ct us items.toList hl (by rw [Array.length_toList, k3])
            refine BindsTo.of_looks fun M => ?_
            rw [b1]
            exact looks_items X hT rfl (.of_pure (by rw [← b2]))
          · cases k3
        · cases k2
      · cases k2
    · cases k1
  · cases h4
theorem supB_no {P : Program} {K : PySem.W.Frag} {C : Addr} {fld q : Str} (h : supB P K C fld q = true) : PySem.W.findIn K (.ref C) fld = some none := by
  unfold supB at h
  simp only [Bool.and_eq_true, decide_eq_true_eq] at h
  exact h.2.2.2.2.2.1
end Pd
end
section
set_option Elab.async false
set_option linter.all false
set_option maxRecDepth 100000
set_option maxHeartbeats 0
namespace K01h
open PySem PySem.Spec PyProof.Rows L2
def topK (i : Nat) : Stmt := PySem.Challenge.pw_shardmove_k01_whole_placings.main.body.getD i (.Pass ⟨0, 0, 0, 0⟩)
def inK : Stmt → List Stmt
  | .ClassDef _ _ _ b _ _ _ _ _ _ _ => b
  | _ => []
def methK (i j : Nat) : Stmt := (inK (topK i)).getD j (.Pass ⟨0, 0, 0, 0⟩)
def e_is_number : He.DefD := ⟨("is_number", none), "is_number", "is_number", defArgs (topK 1), defBody (topK 1), defScope (topK 1), [], []⟩
def e_are_numbers : He.DefD := ⟨("are_numbers", none), "are_numbers", "are_numbers", defArgs (topK 2), defBody (topK 2), defScope (topK 2), [], []⟩
def e_is_ascending : He.DefD := ⟨("is_ascending", none), "is_ascending", "is_ascending", defArgs (topK 3), defBody (topK 3), defScope (topK 3), [], []⟩
def e_check_cluster : He.DefD := ⟨("check_cluster", none), "check_cluster", "check_cluster", defArgs (topK 13), defBody (topK 13), defScope (topK 13), [], []⟩
def e_is_placing : He.DefD := ⟨("is_placing", none), "is_placing", "is_placing", defArgs (topK 16), defBody (topK 16), defScope (topK 16), [], []⟩
def e_placings : He.DefD := ⟨("placings", none), "placings", "placings", defArgs (topK 17), defBody (topK 17), defScope (topK 17), [], []⟩
def e_loads : He.DefD := ⟨("loads", none), "loads", "loads", defArgs (topK 18), defBody (topK 18), defScope (topK 18), [], []⟩
def e_steps : He.DefD := ⟨("steps", none), "steps", "steps", defArgs (topK 19), defBody (topK 19), defScope (topK 19), [], []⟩
def e_after : He.DefD := ⟨("after", none), "after", "after", defArgs (topK 20), defBody (topK 20), defScope (topK 20), [], []⟩
def e_price : He.DefD := ⟨("price", none), "price", "price", defArgs (topK 21), defBody (topK 21), defScope (topK 21), [], []⟩
def e_walk : He.DefD := ⟨("walk", none), "walk", "walk", defArgs (topK 22), defBody (topK 22), defScope (topK 22), [], []⟩
def e_cost : He.DefD := ⟨("cost", none), "cost", "cost", defArgs (topK 23), defBody (topK 23), defScope (topK 23), [], []⟩
def e_check_placing : He.DefD := ⟨("check_placing", none), "check_placing", "check_placing", defArgs (topK 24), defBody (topK 24), defScope (topK 24), [], []⟩
def e_held : He.DefD := ⟨("held", none), "held", "held", defArgs (topK 25), defBody (topK 25), defScope (topK 25), [], []⟩
def e_fits : He.DefD := ⟨("fits", none), "fits", "fits", defArgs (topK 26), defBody (topK 26), defScope (topK 26), [], []⟩
def e_may_lie : He.DefD := ⟨("may_lie", none), "may_lie", "may_lie", defArgs (topK 27), defBody (topK 27), defScope (topK 27), [], []⟩
def e_moves : He.DefD := ⟨("moves", none), "moves", "moves", defArgs (topK 28), defBody (topK 28), defScope (topK 28), [], []⟩
def e_placing_after : He.DefD := ⟨("placing_after", none), "placing_after", "placing_after", defArgs (topK 29), defBody (topK 29), defScope (topK 29), [], []⟩
def e_step_price : He.DefD := ⟨("step_price", none), "step_price", "step_price", defArgs (topK 30), defBody (topK 30), defScope (topK 30), [], []⟩
def e_way_price : He.DefD := ⟨("way_price", none), "way_price", "way_price", defArgs (topK 31), defBody (topK 31), defScope (topK 31), [], []⟩
def e_has_form : He.DefD := ⟨("has_form", none), "has_form", "has_form", defArgs (topK 32), defBody (topK 32), defScope (topK 32), [], []⟩
def e_subsets : He.DefD := ⟨("subsets", none), "subsets", "subsets", defArgs (topK 33), defBody (topK 33), defScope (topK 33), [], []⟩
def e__copied : He.DefD := ⟨("_copied", none), "_copied", "_copied", defArgs (topK 34), defBody (topK 34), defScope (topK 34), [], []⟩
def e__dropped : He.DefD := ⟨("_dropped", none), "_dropped", "_dropped", defArgs (topK 35), defBody (topK 35), defScope (topK 35), [], []⟩
def e__replaced : He.DefD := ⟨("_replaced", none), "_replaced", "_replaced", defArgs (topK 36), defBody (topK 36), defScope (topK 36), [], []⟩
def e__choices : He.DefD := ⟨("_choices", none), "_choices", "_choices", defArgs (topK 37), defBody (topK 37), defScope (topK 37), [], []⟩
def e__collect : He.DefD := ⟨("_collect", none), "_collect", "_collect", defArgs (topK 38), defBody (topK 38), defScope (topK 38), [], []⟩
def e__law_cell_at : He.DefD := ⟨("_law_cell_at", none), "_law_cell_at", "_law_cell_at", defArgs (topK 40), defBody (topK 40), defScope (topK 40), [], []⟩
def e__law_draw : He.DefD := ⟨("_law_draw", none), "_law_draw", "_law_draw", defArgs (topK 41), defBody (topK 41), defScope (topK 41), [], []⟩
def e__law_number : He.DefD := ⟨("_law_number", none), "_law_number", "_law_number", defArgs (topK 42), defBody (topK 42), defScope (topK 42), [], []⟩
def e__law_next : He.DefD := ⟨("_law_next", none), "_law_next", "_law_next", defArgs (topK 43), defBody (topK 43), defScope (topK 43), [], []⟩
def e__law_pick : He.DefD := ⟨("_law_pick", none), "_law_pick", "_law_pick", defArgs (topK 44), defBody (topK 44), defScope (topK 44), [], []⟩
def e__law_cluster : He.DefD := ⟨("_law_cluster", none), "_law_cluster", "_law_cluster", defArgs (topK 45), defBody (topK 45), defScope (topK 45), [], []⟩
def e__law_choices : He.DefD := ⟨("_law_choices", none), "_law_choices", "_law_choices", defArgs (topK 46), defBody (topK 46), defScope (topK 46), [], []⟩
def e__law_spread : He.DefD := ⟨("_law_spread", none), "_law_spread", "_law_spread", defArgs (topK 47), defBody (topK 47), defScope (topK 47), [], []⟩
def e__law_held : He.DefD := ⟨("_law_held", none), "_law_held", "_law_held", defArgs (topK 48), defBody (topK 48), defScope (topK 48), [], []⟩
def e__law_fits : He.DefD := ⟨("_law_fits", none), "_law_fits", "_law_fits", defArgs (topK 49), defBody (topK 49), defScope (topK 49), [], []⟩
def e__law_every : He.DefD := ⟨("_law_every", none), "_law_every", "_law_every", defArgs (topK 50), defBody (topK 50), defScope (topK 50), [], []⟩
def e__law_longer : He.DefD := ⟨("_law_longer", none), "_law_longer", "_law_longer", defArgs (topK 51), defBody (topK 51), defScope (topK 51), [], []⟩
def e__law_with : He.DefD := ⟨("_law_with", none), "_law_with", "_law_with", defArgs (topK 52), defBody (topK 52), defScope (topK 52), [], []⟩
def e__law_moves : He.DefD := ⟨("_law_moves", none), "_law_moves", "_law_moves", defArgs (topK 53), defBody (topK 53), defScope (topK 53), [], []⟩
def e__law_any : He.DefD := ⟨("_law_any", none), "_law_any", "_law_any", defArgs (topK 54), defBody (topK 54), defScope (topK 54), [], []⟩
def e__law_told : He.DefD := ⟨("_law_told", none), "_law_told", "_law_told", defArgs (topK 55), defBody (topK 55), defScope (topK 55), [], []⟩
def e__law_step_right : He.DefD := ⟨("_law_step_right", none), "_law_step_right", "_law_step_right", defArgs (topK 56), defBody (topK 56), defScope (topK 56), [], []⟩
def e__law_way_right : He.DefD := ⟨("_law_way_right", none), "_law_way_right", "_law_way_right", defArgs (topK 57), defBody (topK 57), defScope (topK 57), [], []⟩
def e__law_cluster_right : He.DefD := ⟨("_law_cluster_right", none), "_law_cluster_right", "_law_cluster_right", defArgs (topK 58), defBody (topK 58), defScope (topK 58), [], []⟩
def e_law : He.DefD := ⟨("law", none), "law", "law", defArgs (topK 59), defBody (topK 59), defScope (topK 59), [], []⟩
def e_init : He.DefD := ⟨("Cluster", some "__init__"), "__init__", "Cluster.__init__", defArgs (methK 12 0), defBody (methK 12 0), defScope (methK 12 0), [], [("zones", .non), ("far", .int 1), ("alive", .int 1), ("apart", .bl false)]⟩
def fn0 : List He.DefD := [e_is_number, e_are_numbers, e_is_ascending, e_check_cluster, e_is_placing, e_placings, e_loads, e_steps, e_after, e_price, e_walk, e_cost, e_check_placing, e_held, e_fits, e_may_lie, e_moves, e_placing_after, e_step_price, e_way_price, e_has_form, e_subsets, e__copied, e__dropped, e__replaced, e__choices, e__collect, e__law_cell_at, e__law_draw, e__law_number]
def fn1 : List He.DefD := [e__law_next, e__law_pick, e__law_cluster, e__law_choices, e__law_spread, e__law_held, e__law_fits, e__law_every, e__law_longer, e__law_with, e__law_moves, e__law_any, e__law_told, e__law_step_right, e__law_way_right, e__law_cluster_right, e_law, e_init]
def fn : List He.DefD := fn0 ++ fn1
def fa0 : List He.Fa := [.glo "is_number", .glo "are_numbers", .glo "is_ascending", .glo "check_cluster", .glo "is_placing", .glo "placings", .glo "loads", .glo "steps", .glo "after", .glo "price", .glo "walk", .glo "cost", .glo "check_placing", .glo "held", .glo "fits", .glo "may_lie", .glo "moves", .glo "placing_after", .glo "step_price", .glo "way_price", .glo "has_form", .glo "subsets", .glo "_copied", .glo "_dropped", .glo "_replaced", .glo "_choices", .glo "_collect", .glo "_law_cell_at", .glo "_law_draw", .glo "_law_number"]
def fa1 : List He.Fa := [.glo "_law_next", .glo "_law_pick", .glo "_law_cluster", .glo "_law_choices", .glo "_law_spread", .glo "_law_held", .glo "_law_fits", .glo "_law_every", .glo "_law_longer", .glo "_law_with", .glo "_law_moves", .glo "_law_any", .glo "_law_told", .glo "_law_step_right", .glo "_law_way_right", .glo "_law_cluster_right", .glo "law", .glo "ShardError", .glo "BadCluster", .glo "BadPlacing", .glo "BadStep", .glo "BadSteps", .glo "TooLarge", .glo "Cluster", .free "len", .free "sum", .free "all", .free "min", .free "max", .free "sorted"]
def fa2 : List He.Fa := [.free "int", .free "bool", .free "str", .free "list", .free "tuple", .free "dict", .free "range", .free "enumerate", .free "zip", .free "isinstance", .free "super", .int "MOST_PLACINGS" 2000, .cls "Cluster", .mkr "Cluster", .noat "Cluster" "_rooms", .noat "Cluster" "_sizes", .noat "Cluster" "_zones", .noat "Cluster" "_far", .noat "Cluster" "_alive", .noat "Cluster" "_apart", .exc "BadStep", .exm "BadStep" "BadStep" true, .exm "BadSteps" "BadStep" false, .exm "BadSteps" "BadSteps" true]
def fa : List He.Fa := fa0 ++ fa1 ++ fa2
def looseK0 : List Str := ["__name__", "is_number", "are_numbers", "is_ascending", "ShardError", "BadCluster", "BadPlacing", "BadStep", "BadSteps", "TooLarge", "Cluster", "check_cluster", "MOST_PLACINGS", "is_placing", "placings", "loads", "steps", "after", "price", "walk", "cost", "check_placing", "held", "fits", "may_lie", "moves", "placing_after", "step_price", "way_price", "has_form"]
def looseK1 : List Str := ["subsets", "_copied", "_dropped", "_replaced", "_choices", "_collect", "_law_cell_at", "_law_draw", "_law_number", "_law_next", "_law_pick", "_law_cluster", "_law_choices", "_law_spread", "_law_held", "_law_fits", "_law_every", "_law_longer", "_law_with", "_law_moves", "_law_any", "_law_told", "_law_step_right", "_law_way_right", "_law_cluster_right"]
def looseK : List Str := looseK0 ++ looseK1
def tfK : List He.Defn := [("_law_step_right", none), ("_law_way_right", none)]
abbrev C0 (K : PySem.W.Frag) : Addr := He.ga K "Cluster"
abbrev C1 (K : PySem.W.Frag) : Addr := He.ga K "BadSteps"
def clsKB (K : PySem.W.Frag) (C : Addr) : Bool := decide (PySem.W.findIn K (.ref C) "__class__" = some (some (.builtin "object.__class__"))) && (decide (PySem.W.specialIn K (.builtin "object.__class__") "__get__" = some (some (.builtin "getset_descriptor.__get__"))) && (decide (PySem.W.takesIn K (.builtin "object.__class__") = some true) && decide (PySem.W.mroIn K C (.type "object") = some true)))
abbrev rowK : PySem.W.OpenRow := PySem.W.OpenLaw.row PySem.Challenge.rw_shardmove_k01_whole_placings
def exK (K : PySem.W.Frag) : Bool := Pd.propB K (C0 K) "rooms" "Cluster.rooms" && (Pd.propB K (C0 K) "sizes" "Cluster.sizes" && (Pd.propB K (C0 K) "zones" "Cluster.zones" && (Pd.propB K (C0 K) "far" "Cluster.far" && (Pd.propB K (C0 K) "alive" "Cluster.alive" && (Pd.propB K (C0 K) "apart" "Cluster.apart" && (clsKB K (C0 K) && (Pd.supB PySem.Challenge.pw_shardmove_k01_whole_placings K (C1 K) "index" "BadSteps.__init__" && (xfB K (C1 K) && (decide ((He.cT K ("_law_step_right", none)).2 ≠ (He.cT K ("_law_way_right", none)).2))))))))))
def exFns (K : PySem.W.Frag) : List Pd.FnQ := [Pd.fnAt K (Pd.getterAt K (C0 K) "rooms"), Pd.fnAt K (Pd.getterAt K (C0 K) "sizes"), Pd.fnAt K (Pd.getterAt K (C0 K) "zones"), Pd.fnAt K (Pd.getterAt K (C0 K) "far"), Pd.fnAt K (Pd.getterAt K (C0 K) "alive"), Pd.fnAt K (Pd.getterAt K (C0 K) "apart"), Pd.fnAt K (Pd.initAt K (C1 K))]
def exVals : List Pd.FnQ := [some ("rooms", "Cluster.rooms", defArgs (methK 12 2), .stmts (defBody (methK 12 2)), defScope (methK 12 2), mainGlobals, [], builtinsNs),
  some ("sizes", "Cluster.sizes", defArgs (methK 12 3), .stmts (defBody (methK 12 3)), defScope (methK 12 3), mainGlobals, [], builtinsNs),
  some ("zones", "Cluster.zones", defArgs (methK 12 4), .stmts (defBody (methK 12 4)), defScope (methK 12 4), mainGlobals, [], builtinsNs),
  some ("far", "Cluster.far", defArgs (methK 12 5), .stmts (defBody (methK 12 5)), defScope (methK 12 5), mainGlobals, [], builtinsNs),
  some ("alive", "Cluster.alive", defArgs (methK 12 6), .stmts (defBody (methK 12 6)), defScope (methK 12 6), mainGlobals, [], builtinsNs),
  some ("apart", "Cluster.apart", defArgs (methK 12 7), .stmts (defBody (methK 12 7)), defScope (methK 12 7), mainGlobals, [], builtinsNs),
  some ("__init__", "BadSteps.__init__", defArgs (methK 9 0), .stmts (defBody (methK 9 0)), defScope (methK 9 0), mainGlobals, ["__class__"], builtinsNs)]
abbrev AlY : Type := He.AlX × List Pd.FnQ
abbrev asY (n : Nat) (g : Addr → Option Obj) : List Addr := cStatics :: He.asD g n
def obsY (n : Nat) (g : Addr → Option Obj) : AlY := ((He.obsT fa fn [] (He.frT g (asY n g)), exK (He.frT g (asY n g)) && He.tabsB g tfK (He.frT g (asY n g))), exFns (He.frT g (asY n g)))
theorem says_of {fa : List He.Fa} {fn : List He.DefD} {tf : List He.Defn} {ex : PySem.W.Frag → Bool} {w : World} {h : Heap} {as : List Addr} (e1 : He.obsT fa fn [] (He.frT h.get? as) = He.valT fn [] w) (e2 : (ex (He.frT h.get? as) && He.tabsB h.get? tf (He.frT h.get? as)) = true) :
    He.SaysX fa fn [] tf ex w h (He.frT h.get? as) := by
  obtain ⟨hx, ht⟩ := He.ba e2
  have each : ∀ p ∈ tf, PySem.W.codeHdIn (He.frT h.get? as) (He.cT (He.frT h.get? as) p).1 (He.cT (He.frT h.get? as) p).2 = true ∧ ∃ o, h.get? (He.cT (He.frT h.get? as) p).2 = some o ∧ He.emptyTab o = true := fun p hp => by
    obtain ⟨c1, c2⟩ := He.ba (List.all_eq_true.mp ht p hp)
    cases q : h.get? (He.cT (He.frT h.get? as) p).2 with
    | none => rw [q] at c2; cases c2
    | some o => rw [q] at c2; exact ⟨c1, o, rfl, c2⟩
  refine ⟨e1, hx, fun p hp => (each p hp).1, fun p hp => ?_, fun p hp => ?_⟩
  · obtain ⟨_, o, q, z⟩ := each p hp
    exact He.frT_none q z
  · obtain ⟨_, o, q, z⟩ := each p hp
    rw [q, He.emptyTab_eq z]
def hookY (n : Nat) : PySem.W.Hook where
  α := AlY
  obs := fun s => obsY n s.heap.get?
  val := fun w => (He.valX fn [] w, exVals)
  says := fun w h => ∃ K : PySem.W.Frag, K.In h ∧ He.SaysX fa fn [] tfK exK w h K ∧ exFns K = exVals
  of := fun _ _ e => ⟨_, He.frT_in, says_of (congrArg (fun z : AlY => z.1.1) e) (congrArg (fun z : AlY => z.1.2) e), congrArg (fun z : AlY => z.2) e⟩
  keeps := fun _ _ _ ⟨K, hK, c, e⟩ k => ⟨K, PySem.W.Frag.In.keeps hK k, ⟨c.t, c.more, c.hd, c.out, fun p hp => k _ _ (c.empty p hp)⟩, e⟩
theorem obsY_eq {n : Nat} {g : Addr → Option Obj} {s : Shared} (h : ∀ a, g a = s.heap.get? a) : obsY n g = (hookY n).obs s := by
  have e : g = s.heap.get? := funext h
  rw [e] <;> rfl
abbrev hookK : PySem.W.Hook := hookY 7
def seenK (s : PySem.W.SharedT) : AlY := obsY 7 (HandSHeadRun.getT s)
theorem seenK_eq (s : PySem.W.SharedT) : seenK s = hookK.obs s.abs := obsY_eq (HandSHeadRun.getT_eq s)
theorem runK (w : World) : HandSHeadRun.RunEq rowK (PySem.W.view rowK.prog [59]) hookK seenK 4000 looseK w := by
  intro os
  kernel_rfl
end K01h
end
section
set_option Elab.async false
set_option linter.all false
set_option maxRecDepth 100000
set_option maxHeartbeats 4000000
namespace Pd
open PySem PySem.Spec PyProof.Rows L2
theorem satS_frz {X : Cx} {np : Nat} {E : Wish} (i : Nat) {t : TS} {g : MoS} (h2 : SatS X.K np E t g) : SatS X.K np E t (frzS np i g) := by
  intro T O M env σ H D o hK hP r e p
  unfold frzS at e
  split at e
  · rename_i ds hd
    split at e
    · rename_i hnp
      obtain ⟨v, q1, l, vs, q2, q3, q4, q5⟩ := r.at_ _ _ hd
      subst q2
      have hp : ∀ p ∈ T.par, p.1 ≠ i := fun p hp' z => by have := hP.1 p hp'; omega
      have hT : l ∉ T.O := fun z => by
        rcases r.mine l q3 with w | w | w
        · obtain ⟨x, hx, rfl⟩ := List.mem_map.mp w
          obtain ⟨g1, es, g2⟩ := r.pars x hx
          exact hp x hx (r.apart x.1 i x.2 es ds g2 hd g1 q1)
        · exact hP.2 l z w
        · obtain ⟨ps, e⟩ := tab_some r.tabs w
          rw [q4] at e; cases e
      refine h2 T _ _ _ σ H D o hK hP (r.freeze hd q1 hp hT) e (p.shift ?_)
      exact cut_same (fun _ _ e _ => e) fun b x e z => (List.mem_filter.mp z).1
    · cases e
  · cases e
/-- an owned list of this def may be put in place of an older one: the older one is let go first -/
def thawS (np i : Nat) (g : MoS) : MoS := fun env => if isOwn env i = true then frzS np i g env else g env
theorem pdss_thaw {X : Cx} {np : Nat} {E : Wish} (i : Nat) {st : List Stmt} {g : MoS} (h : PDSs X np E st g) : PDSs X np E st (thawS np i g) := by
  obtain ⟨t, h3, h4⟩ := h
  have h2 := satS_frz (np := np) i h4
  refine ⟨t, h3, fun T O M env σ H D o hK hP r e p => ?_⟩
  unfold thawS at e
  split at e
  · exact h2 T O M env σ H D o hK hP r e p
  · exact h4 T O M env σ H D o hK hP r e p
end Pd
end
section
set_option Elab.async false
set_option linter.all false
set_option maxRecDepth 100000
set_option maxHeartbeats 4000000
namespace K01
open PySem PySem.Spec PyProof.Rows L2 Pd
def topS (i : Nat) : Stmt := PySem.Challenge.pw_shardmove_k01_whole_placings.main.body.getD i (.Pass ⟨0, 0, 0, 0⟩)
structure Ads where
  C : Addr
  CB : Addr
  CS : Addr
def bodyOf : Stmt → List Stmt
  | .ClassDef _ _ _ b _ _ _ _ _ _ _ => b
  | _ => []
abbrev s_init : Stmt := (bodyOf (topS 12)).getD 0 (.Pass ⟨0, 0, 0, 0⟩)
structure InitAt (K : PySem.W.Frag) (tbs : List (Addr × Str)) (C : Addr) : Prop where
  cl : Cls K C
  ex : ∃ (fI : Addr) (fd : FuncData), Mk K C fI ∧ FunD K "__init__" "Cluster.__init__" (defArgs s_init) (defBody s_init) (defScope s_init) [] [("zones", .non), ("far", .int 1), ("alive", .int 1), ("apart", .bl false)] fI fd
  no : ∀ f ∈ (["_rooms", "_sizes", "_zones", "_far", "_alive", "_apart"] : List Str), NoAttr K C f
structure DefTab (K : PySem.W.Frag) (mg : Str → Option Value) (base : Heap) (tbs : List (Addr × Str)) (x : Str) (st : Stmt) (ps : List Str) (q : Str) : Prop where
  ex : ∃ (f : Addr) (fd : FuncData) (c P : Addr), Fun K x x st f fd ∧ mg x = some (.ref f) ∧ L2.Binds K fd ps [] ∧ fd.code = .ref c ∧ LamX.TabB base mg c P ∧ (P, q) ∈ tbs ∧ ∀ p ∈ tbs, p.1 = P → p.2 = q
structure DefAt (K : PySem.W.Frag) (mg : Str → Option Value) (x : Str) (st : Stmt) (ps : List Str) : Prop where
  ex : ∃ (f : Addr) (fd : FuncData), Fun K x x st f fd ∧ mg x = some (.ref f) ∧ L2.Binds K fd ps []
abbrev s_is_number : Stmt := topS 1
abbrev s_are_numbers : Stmt := topS 2
abbrev s_is_ascending : Stmt := topS 3
abbrev s_check_cluster : Stmt := topS 13
abbrev s_is_placing : Stmt := topS 16
abbrev s_placings : Stmt := topS 17
abbrev s_loads : Stmt := topS 18
abbrev s_steps : Stmt := topS 19
abbrev s_after : Stmt := topS 20
abbrev s_price : Stmt := topS 21
abbrev s_walk : Stmt := topS 22
abbrev s_cost : Stmt := topS 23
abbrev s_check_placing : Stmt := topS 24
abbrev s_held : Stmt := topS 25
abbrev s_fits : Stmt := topS 26
abbrev s_may_lie : Stmt := topS 27
abbrev s_moves : Stmt := topS 28
abbrev s_placing_after : Stmt := topS 29
abbrev s_step_price : Stmt := topS 30
abbrev s_way_price : Stmt := topS 31
abbrev s_has_form : Stmt := topS 32
abbrev s_subsets : Stmt := topS 33
abbrev s__copied : Stmt := topS 34
abbrev s__dropped : Stmt := topS 35
abbrev s__replaced : Stmt := topS 36
abbrev s__choices : Stmt := topS 37
abbrev s__collect : Stmt := topS 38
abbrev s__law_cell_at : Stmt := topS 40
abbrev s__law_draw : Stmt := topS 41
abbrev s__law_number : Stmt := topS 42
abbrev s__law_next : Stmt := topS 43
abbrev s__law_pick : Stmt := topS 44
abbrev s__law_cluster : Stmt := topS 45
abbrev s__law_choices : Stmt := topS 46
abbrev s__law_spread : Stmt := topS 47
abbrev s__law_held : Stmt := topS 48
abbrev s__law_fits : Stmt := topS 49
abbrev s__law_every : Stmt := topS 50
abbrev s__law_longer : Stmt := topS 51
abbrev s__law_with : Stmt := topS 52
abbrev s__law_moves : Stmt := topS 53
abbrev s__law_any : Stmt := topS 54
abbrev s__law_step_right : Stmt := topS 56
abbrev s__law_way_right : Stmt := topS 57
abbrev s__law_cluster_right : Stmt := topS 58
abbrev s_law : Stmt := topS 59
def g_is_number (A : Ads) : MoS :=
  (retS (andV (isiM "int" (varM 0)) (andV (notV (isiM "bool" (varM 0))) (chainM leD leD (varM 1) (varM 0) (varM 2)))))
def F_is_number (A : Ads) : List SV → Option Res := runN 3 3 (g_is_number A)
def c0_are_numbers (A : Ads) : Mo SV :=
  (lcM [3] (siM (varM 0)) (setM 3) (retM true) (Pd.bindM (consM (varM 3) (consM (varM 1) (consM (varM 2) (retM [])))) (callM (F_is_number A))))
def g_are_numbers (A : Ads) : MoS :=
  (retS (andV (isiM "tuple" (varM 0)) (bltM allD (consM (c0_are_numbers A) (retM [])))))
def F_are_numbers (A : Ads) : List SV → Option Res := runN 4 3 (g_are_numbers A)
def c0_is_ascending (A : Ads) : MoS :=
  (forS (siM (varM 0)) (setM 3) (seqS (ifS (notM (boolM (Pd.bindM (consM (varM 3) (consM (varM 2) (consM (op2M subD (varM 1) (retM (.da (.int 1)))) (retM [])))) (callM (F_is_number A))))) (retS (retM (.da (.bool false)))) nxS) (setS 2 (op2M addD (varM 3) (retM (.da (.int 1)))))))
def g_is_ascending (A : Ads) : MoS :=
  (seqS (ifS (notM (boolM (isiM "tuple" (varM 0)))) (retS (retM (.da (.bool false)))) nxS) (seqS (setS 2 (retM (.da (.int 0)))) (seqS (c0_is_ascending A) (retS (retM (.da (.bool true)))))))
def F_is_ascending (A : Ads) : List SV → Option Res := runN 4 2 (g_is_ascending A)
def g_check_cluster (A : Ads) : MoS :=
  (ifS (notM (boolM (isiCM A.C (varM 0)))) (fun _ => none) nxS)
def F_check_cluster (A : Ads) : List SV → Option Res := runN 1 1 (g_check_cluster A)
def c0_may_lie (A : Ads) : Mo SV :=
  (setLenM [2] (siM (varM 1)) (setM 2) (op2M ixD (fldM A.C "_zones" (varM 0)) (varM 2)))
def g_may_lie (A : Ads) : MoS :=
  (seqS (ifS (boolM (op2M ltD (bltM lenD (consM (varM 1) (retM []))) (fldM A.C "_alive" (varM 0)))) (retS (retM (.da (.bool false)))) nxS) (retS (orV (notV (fldM A.C "_apart" (varM 0))) (op2M eqD (c0_may_lie A) (bltM lenD (consM (varM 1) (retM [])))))))
def F_may_lie (A : Ads) : List SV → Option Res := runN 3 2 (g_may_lie A)
def c0_held (A : Ads) : MoS :=
  (forS (siM (varM 4)) (setM 5) (augS 2 (varM 5) (varM 3)))
def c1_held (A : Ads) : MoS :=
  (forS (ztM (consM (fldM A.C "_sizes" (varM 0)) (consM (varM 1) (retM [])))) (tupG 2 (consG (setM 3) (consG (setM 4) nilG))) (c0_held A))
def g_held (A : Ads) : MoS :=
  (seqS (ownS 2 (repLM (consM (retM (.da (.int 0))) (retM [])) (bltM lenD (consM (fldM A.C "_rooms" (varM 0)) (retM []))))) (seqS (c1_held A) (frzS 2 2 (retS (varM 2)))))
def F_held (A : Ads) : List SV → Option Res := runN 6 2 (g_held A)
def c0_fits (A : Ads) : Mo SV :=
  (lcM [2, 3] (zmM (consM (Pd.bindM (consM (varM 0) (consM (varM 1) (retM []))) (callM (F_held A))) (consM (fldM A.C "_rooms" (varM 0)) (retM [])))) (tupG 2 (consG (setM 2) (consG (setM 3) nilG))) (retM true) (op2M leD (varM 2) (varM 3)))
def g_fits (A : Ads) : MoS :=
  (retS (bltM allD (consM (c0_fits A) (retM []))))
def F_fits (A : Ads) : List SV → Option Res := runN 4 2 (g_fits A)
def c0_is_placing (A : Ads) : Mo SV :=
  (lcM [2] (siM (varM 1)) (setM 2) (retM true) (Pd.bindM (consM (varM 2) (consM (bltM lenD (consM (fldM A.C "_rooms" (varM 0)) (retM []))) (retM []))) (callM (F_is_ascending A))))
def c1_is_placing (A : Ads) : Mo SV :=
  (lcM [2] (siM (varM 1)) (setM 2) (retM true) (Pd.bindM (consM (varM 0) (consM (varM 2) (retM []))) (callM (F_may_lie A))))
def g_is_placing (A : Ads) : MoS :=
  (seqS (dropS (Pd.bindM (consM (varM 0) (retM [])) (callM (F_check_cluster A)))) (seqS (ifS (orM (notM (boolM (isiM "tuple" (varM 1)))) (boolM (op2M neD (bltM lenD (consM (varM 1) (retM []))) (bltM lenD (consM (fldM A.C "_sizes" (varM 0)) (retM [])))))) (retS (retM (.da (.bool false)))) nxS) (seqS (ifS (notM (boolM (bltM allD (consM (c0_is_placing A) (retM []))))) (retS (retM (.da (.bool false)))) nxS) (retS (andV (bltM allD (consM (c1_is_placing A) (retM []))) (Pd.bindM (consM (varM 0) (consM (varM 1) (retM []))) (callM (F_fits A))))))))
def F_is_placing (A : Ads) : List SV → Option Res := runN 3 2 (g_is_placing A)
def c0_subsets (A : Ads) : Mo SV :=
  (lcM [3] (siM (varM 1)) (setM 3) (retM true) (op2M addD (varM 3) (tupM (consM (varM 2) (retM [])))))
def c1_subsets (A : Ads) : MoS :=
  (forS (rg1M (consM (varM 0) (retM []))) (setM 2) (setS 1 (op2M addD (varM 1) (c0_subsets A))))
def g_subsets (A : Ads) : MoS :=
  (seqS (setS 1 (lstM (consM (tupM (retM [])) (retM [])))) (seqS (c1_subsets A) (retS (bltM sortedD (consM (varM 1) (retM []))))))
def F_subsets (A : Ads) : List SV → Option Res := runN 4 1 (g_subsets A)
def c0__choices (A : Ads) : Mo SV :=
  (lcM [1] (siM (Pd.bindM (consM (bltM lenD (consM (fldM A.C "_rooms" (varM 0)) (retM []))) (retM [])) (callM (F_subsets A)))) (setM 1) (boolM (Pd.bindM (consM (varM 0) (consM (varM 1) (retM []))) (callM (F_may_lie A)))) (varM 1))
def g__choices (A : Ads) : MoS :=
  (retS (c0__choices A))
def F__choices (A : Ads) : List SV → Option Res := runN 2 1 (g__choices A)
def c0__collect (A : Ads) (Fself : List SV → Option Res) : Mo SV :=
  (lcM [8, 9] (eiM (consM (varM 3) (retM []))) (tupG 2 (consG (setM 8) (consG (setM 9) nilG))) (retM true) (ifM (boolM (op2M (inD false) (varM 8) (varM 6))) (op2M subD (varM 9) (varM 5)) (varM 9)))
def c1__collect (A : Ads) (Fself : List SV → Option Res) : MoS :=
  (forS (siM (varM 1)) (setM 6) (seqS (setS 7 (c0__collect A Fself)) (ifS (boolM (op2M geD (bltM minD1 (consM (varM 7) (retM []))) (retM (.da (.int 0))))) (dropS (Pd.bindM (consM (varM 0) (consM (varM 1) (consM (op2M addD (varM 2) (tupM (consM (varM 6) (retM [])))) (consM (varM 7) (ownM 4 (retM [])))))) (callM Fself))) nxS)))
def g__collect (A : Ads) (Fself : List SV → Option Res) : MoS :=
  (seqS (ifS (boolM (op2M eqD (bltM lenD (consM (varM 2) (retM []))) (bltM lenD (consM (fldM A.C "_sizes" (varM 0)) (retM []))))) (seqS (ifS (boolM (op2M eqD (ownLenM 4) (retM (.da (.int 2000))))) (fun _ => none) nxS) (seqS (appS 4 (varM 2)) (retNS))) nxS) (seqS (setS 5 (op2M ixD (fldM A.C "_sizes" (varM 0)) (bltM lenD (consM (varM 2) (retM []))))) (c1__collect A Fself)))
def F__collect (A : Ads) : Nat → List SV → Option Res
  | 0 => fun _ => none
  | k + 1 => runN 10 5 (g__collect A (F__collect A k))
def g_placings (A : Ads) : MoS :=
  (seqS (dropS (Pd.bindM (consM (varM 0) (retM [])) (callM (F_check_cluster A)))) (seqS (ownS 1 (newLM (retM []))) (seqS (dropS (Pd.bindM (consM (varM 0) (consM (Pd.bindM (consM (varM 0) (retM [])) (callM (F__choices A))) (consM (tupM (retM [])) (consM (fldM A.C "_rooms" (varM 0)) (ownM 1 (retM [])))))) (callM (F__collect A 6)))) (frzS 1 1 (retS (varM 1))))))
def F_placings (A : Ads) : List SV → Option Res := runN 2 1 (g_placings A)
def g_check_placing (A : Ads) : MoS :=
  (ifS (notM (boolM (Pd.bindM (consM (varM 0) (consM (varM 1) (retM []))) (callM (F_is_placing A))))) (fun _ => none) nxS)
def F_check_placing (A : Ads) : List SV → Option Res := runN 2 2 (g_check_placing A)
def g_loads (A : Ads) : MoS :=
  (seqS (dropS (Pd.bindM (consM (varM 0) (consM (varM 1) (retM []))) (callM (F_check_placing A)))) (retS (Pd.bindM (consM (varM 0) (consM (varM 1) (retM []))) (callM (F_held A)))))
def F_loads (A : Ads) : List SV → Option Res := runN 2 2 (g_loads A)
def g__replaced (A : Ads) : MoS :=
  (seqS (ifS (notM (boolM (Pd.bindM (consM (varM 0) (consM (varM 3) (retM []))) (callM (F_may_lie A))))) (retS (retM (.da .none))) nxS) (retS (op2M addD (op2M addD (sliceM (varM 1) (retM none) (partM (varM 2))) (tupM (consM (varM 3) (retM [])))) (sliceM (varM 1) (partM (op2M addD (varM 2) (retM (.da (.int 1))))) (retM none)))))
def F__replaced (A : Ads) : List SV → Option Res := runN 4 4 (g__replaced A)
def g__copied (A : Ads) : MoS :=
  (seqS (setS 5 (op2M ixD (varM 1) (varM 3))) (seqS (ifS (orM (boolM (op2M (inD false) (varM 4) (varM 5))) (boolM (op2M gtD (op2M addD (op2M ixD (varM 2) (varM 4)) (op2M ixD (fldM A.C "_sizes" (varM 0)) (varM 3))) (op2M ixD (fldM A.C "_rooms" (varM 0)) (varM 4))))) (retS (retM (.da .none))) nxS) (retS (Pd.bindM (consM (varM 0) (consM (varM 1) (consM (varM 3) (consM (bltM tupleD (consM (bltM sortedD (consM (lstM (starM (varM 5) (consM (varM 4) (retM [])))) (retM []))) (retM []))) (retM []))))) (callM (F__replaced A))))))
def F__copied (A : Ads) : List SV → Option Res := runN 6 5 (g__copied A)
def c0__dropped (A : Ads) : Mo SV :=
  (lcM [5] (siM (varM 4)) (setM 5) (boolM (op2M neD (varM 5) (varM 3))) (varM 5))
def g__dropped (A : Ads) : MoS :=
  (seqS (setS 4 (op2M ixD (varM 1) (varM 2))) (seqS (ifS (boolM (op2M (inD true) (varM 3) (varM 4))) (retS (retM (.da .none))) nxS) (retS (Pd.bindM (consM (varM 0) (consM (varM 1) (consM (varM 2) (consM (bltM tupleD (consM (c0__dropped A) (retM []))) (retM []))))) (callM (F__replaced A))))))
def F__dropped (A : Ads) : List SV → Option Res := runN 6 4 (g__dropped A)
def c0_moves (A : Ads) : Mo SV :=
  (lcM [7] (rg1M (consM (bltM lenD (consM (fldM A.C "_rooms" (varM 0)) (retM []))) (retM []))) (setM 7) (retM true) (tupM (consM (varM 7) (consM (Pd.bindM (consM (varM 0) (consM (varM 1) (consM (varM 2) (consM (varM 4) (consM (varM 7) (retM [])))))) (callM (F__copied A))) (retM [])))))
def c1_moves (A : Ads) : Mo SV :=
  (lc2iM [8, 7, 9] [7, 9] (siM (varM 5)) (setM 8) (siM (varM 6)) (tupG 2 (consG (setM 7) (consG (setM 9) nilG))) (boolM (op2M isNotD (varM 9) (retM (.da .none)))) (tupM (consM (tupM (consM (retM (.da (.str "copy"))) (consM (varM 4) (consM (varM 8) (consM (varM 7) (retM [])))))) (consM (varM 9) (retM [])))))
def c2_moves (A : Ads) : MoS :=
  (forS (eiM (consM (varM 1) (retM []))) (tupG 2 (consG (setM 4) (consG (setM 5) nilG))) (seqS (setS 6 (c0_moves A)) (extS 3 (c1_moves A))))
def c3_moves (A : Ads) : Mo SV :=
  (lcM [11] (siM (varM 5)) (setM 11) (retM true) (tupM (consM (varM 11) (consM (Pd.bindM (consM (varM 0) (consM (varM 1) (consM (varM 4) (consM (varM 11) (retM []))))) (callM (F__dropped A))) (retM [])))))
def c4_moves (A : Ads) : Mo SV :=
  (lcM [11, 9] (siM (varM 10)) (tupG 2 (consG (setM 11) (consG (setM 9) nilG))) (boolM (op2M isNotD (varM 9) (retM (.da .none)))) (tupM (consM (tupM (consM (retM (.da (.str "drop"))) (consM (varM 4) (consM (varM 11) (retM []))))) (consM (varM 9) (retM [])))))
def c5_moves (A : Ads) : MoS :=
  (forS (eiM (consM (varM 1) (retM []))) (tupG 2 (consG (setM 4) (consG (setM 5) nilG))) (seqS (setS 10 (c3_moves A)) (extS 3 (c4_moves A))))
def g_moves (A : Ads) : MoS :=
  (seqS (setS 2 (Pd.bindM (consM (varM 0) (consM (varM 1) (retM []))) (callM (F_held A)))) (seqS (ownS 3 (newLM (retM []))) (seqS (c2_moves A) (seqS (c5_moves A) (frzS 2 3 (retS (varM 3)))))))
def F_moves (A : Ads) : List SV → Option Res := runN 12 2 (g_moves A)
def c0_steps (A : Ads) : Mo SV :=
  (lcM [2, 3] (siM (Pd.bindM (consM (varM 0) (consM (varM 1) (retM []))) (callM (F_moves A)))) (tupG 2 (consG (setM 2) (consG (setM 3) nilG))) (retM true) (varM 2))
def g_steps (A : Ads) : MoS :=
  (seqS (dropS (Pd.bindM (consM (varM 0) (consM (varM 1) (retM []))) (callM (F_check_placing A)))) (retS (c0_steps A)))
def F_steps (A : Ads) : List SV → Option Res := runN 4 2 (g_steps A)
def c0_has_form (A : Ads) : Mo SV :=
  (lcM [2] (siM (sliceM (varM 1) (partM (retM (.da (.int 2)))) (retM none))) (setM 2) (retM true) (Pd.bindM (consM (varM 2) (consM (retM (.da (.int 0))) (consM (op2M subD (bltM lenD (consM (fldM A.C "_rooms" (varM 0)) (retM []))) (retM (.da (.int 1)))) (retM [])))) (callM (F_is_number A))))
def g_has_form (A : Ads) : MoS :=
  (seqS (ifS (orM (notM (boolM (isiM "tuple" (varM 1)))) (notM (boolM (chainM leD leD (retM (.da (.int 3))) (bltM lenD (consM (varM 1) (retM []))) (retM (.da (.int 4))))))) (retS (retM (.da (.bool false)))) nxS) (seqS (ifS (orM (notM (boolM (isiM "str" (op2M ixD (varM 1) (retM (.da (.int 0))))))) (boolM (op2M neD (op2M ixD (varM 1) (retM (.da (.int 0)))) (ifM (boolM (op2M eqD (bltM lenD (consM (varM 1) (retM []))) (retM (.da (.int 4))))) (retM (.da (.str "copy"))) (retM (.da (.str "drop"))))))) (retS (retM (.da (.bool false)))) nxS) (seqS (ifS (notM (boolM (Pd.bindM (consM (op2M ixD (varM 1) (retM (.da (.int 1)))) (consM (retM (.da (.int 0))) (consM (op2M subD (bltM lenD (consM (fldM A.C "_sizes" (varM 0)) (retM []))) (retM (.da (.int 1)))) (retM [])))) (callM (F_is_number A))))) (retS (retM (.da (.bool false)))) nxS) (retS (bltM allD (consM (c0_has_form A) (retM [])))))))
def F_has_form (A : Ads) : List SV → Option Res := runN 3 2 (g_has_form A)
def g_placing_after (A : Ads) : MoS :=
  (seqS (ifS (notM (boolM (Pd.bindM (consM (varM 0) (consM (varM 2) (retM []))) (callM (F_has_form A))))) (retS (retM (.da .none))) nxS) (seqS (parS 3 4 (consM (op2M ixD (varM 2) (retM (.da (.int 1)))) (consM (op2M ixD (varM 2) (negM (retM (.da (.int 1))))) (retM [])))) (seqS (ifS (boolM (op2M eqD (op2M ixD (varM 2) (retM (.da (.int 0)))) (retM (.da (.str "drop"))))) (retS (Pd.bindM (consM (varM 0) (consM (varM 1) (consM (varM 3) (consM (varM 4) (retM []))))) (callM (F__dropped A)))) nxS) (seqS (ifS (boolM (op2M (inD true) (op2M ixD (varM 2) (retM (.da (.int 2)))) (op2M ixD (varM 1) (varM 3)))) (retS (retM (.da .none))) nxS) (retS (Pd.bindM (consM (varM 0) (consM (varM 1) (consM (Pd.bindM (consM (varM 0) (consM (varM 1) (retM []))) (callM (F_held A))) (consM (varM 3) (consM (varM 4) (retM [])))))) (callM (F__copied A))))))))
def F_placing_after (A : Ads) : List SV → Option Res := runN 5 3 (g_placing_after A)
def g_after (A : Ads) : MoS :=
  (seqS (dropS (Pd.bindM (consM (varM 0) (consM (varM 1) (retM []))) (callM (F_check_placing A)))) (seqS (setS 3 (Pd.bindM (consM (varM 0) (consM (varM 1) (consM (varM 2) (retM [])))) (callM (F_placing_after A)))) (seqS (ifS (boolM (op2M isD (varM 3) (retM (.da .none)))) (raise0S A.CB) nxS) (retS (varM 3)))))
def F_after (A : Ads) : List SV → Option Res := runN 4 3 (g_after A)
def g_step_price (A : Ads) : MoS :=
  (seqS (ifS (boolM (op2M eqD (op2M ixD (varM 1) (retM (.da (.int 0)))) (retM (.da (.str "drop"))))) (retS (retM (.da (.int 1)))) nxS) (seqS (setS 2 (op2M ixD (fldM A.C "_sizes" (varM 0)) (op2M ixD (varM 1) (retM (.da (.int 1)))))) (seqS (ifS (boolM (op2M eqD (op2M ixD (fldM A.C "_zones" (varM 0)) (op2M ixD (varM 1) (retM (.da (.int 2))))) (op2M ixD (fldM A.C "_zones" (varM 0)) (op2M ixD (varM 1) (retM (.da (.int 3))))))) (retS (varM 2)) nxS) (retS (op2M mulD (varM 2) (fldM A.C "_far" (varM 0)))))))
def F_step_price (A : Ads) : List SV → Option Res := runN 3 2 (g_step_price A)
def g_price (A : Ads) : MoS :=
  (seqS (dropS (Pd.bindM (consM (varM 0) (consM (varM 1) (consM (varM 2) (retM [])))) (callM (F_after A)))) (retS (Pd.bindM (consM (varM 0) (consM (varM 2) (retM []))) (callM (F_step_price A)))))
def F_price (A : Ads) : List SV → Option Res := runN 3 3 (g_price A)
def c0_walk (A : Ads) : MoS :=
  (forS (eiM (consM (varM 2) (retM []))) (tupG 2 (consG (setM 4) (consG (setM 5) nilG))) (seqS (setS 6 (Pd.bindM (consM (varM 0) (consM (ownIxM 3 (negM (retM (.da (.int 1))))) (consM (varM 5) (retM [])))) (callM (F_placing_after A)))) (seqS (ifS (boolM (op2M isD (varM 6) (retM (.da .none)))) (raiseS A.CS (idxM (varM 4))) nxS) (appS 3 (varM 6)))))
def g_walk (A : Ads) : MoS :=
  (seqS (dropS (Pd.bindM (consM (varM 0) (consM (varM 1) (retM []))) (callM (F_check_placing A)))) (seqS (ifS (notM (boolM (isi2M "list" "tuple" (varM 2)))) (raiseS A.CS (idxM (retM (.da .none)))) nxS) (seqS (ownS 3 (newLM (consM (varM 1) (retM [])))) (seqS (c0_walk A) (frzS 3 3 (retS (varM 3)))))))
def F_walk (A : Ads) : List SV → Option Res := runN 7 3 (g_walk A)
def c0_way_price (A : Ads) : Mo SV :=
  (lcM [2] (siM (varM 1)) (setM 2) (retM true) (Pd.bindM (consM (varM 0) (consM (varM 2) (retM []))) (callM (F_step_price A))))
def g_way_price (A : Ads) : MoS :=
  (retS (bltM sumD (consM (c0_way_price A) (retM []))))
def F_way_price (A : Ads) : List SV → Option Res := runN 3 2 (g_way_price A)
def g_cost (A : Ads) : MoS :=
  (seqS (dropS (Pd.bindM (consM (varM 0) (consM (varM 1) (consM (varM 2) (retM [])))) (callM (F_walk A)))) (retS (Pd.bindM (consM (varM 0) (consM (varM 2) (retM []))) (callM (F_way_price A)))))
def F_cost (A : Ads) : List SV → Option Res := runN 3 3 (g_cost A)
def g__law_cell_at (A : Ads) : MoS :=
  (seqS (ifS (boolM (op2M ltD (varM 1) (bltM lenD (consM (varM 0) (retM []))))) (retS (op2M ixD (varM 0) (varM 1))) nxS) (retS (retM (.da (.int 0)))))
def F__law_cell_at (A : Ads) : List SV → Option Res := runN 2 2 (g__law_cell_at A)
def g__law_draw (A : Ads) : MoS :=
  (seqS (setS 3 (tupM (consM (retM (.da (.int 1000003))) (consM (retM (.da (.int 1000033))) (consM (retM (.da (.int 1000037))) (consM (retM (.da (.int 1000039))) (consM (retM (.da (.int 1000081))) (consM (retM (.da (.int 1000099))) (consM (retM (.da (.int 1000117))) (consM (retM (.da (.int 1000121))) (consM (retM (.da (.int 1000133))) (consM (retM (.da (.int 1000151))) (consM (retM (.da (.int 1000159))) (consM (retM (.da (.int 1000171))) (consM (retM (.da (.int 1000183))) (consM (retM (.da (.int 1000187))) (consM (retM (.da (.int 1000193))) (consM (retM (.da (.int 1000199))) (retM []))))))))))))))))))) (retS (op2M modD (op2M modD (bltM intCallD (consM (op2M addD (op2M mulD (varM 0) (retM (.da (.int 48271)))) (op2M mulD (varM 1) (retM (.da (.int 69621))))) (retM []))) (op2M ixD (varM 3) (op2M modD (bltM intCallD (consM (varM 1) (retM []))) (retM (.da (.int 16)))))) (varM 2))))
def F__law_draw (A : Ads) : List SV → Option Res := runN 4 3 (g__law_draw A)
def c0__law_number (A : Ads) : MoS :=
  (forS (rg1M (consM (op2M modD (bltM intCallD (consM (varM 1) (retM []))) (retM (.da (.int 24)))) (retM []))) (setM 4) (setS 3 (op2M mulD (varM 3) (retM (.da (.int 1009))))))
def g__law_number (A : Ads) : MoS :=
  (seqS (setS 3 (retM (.da (.int 1)))) (seqS (c0__law_number A) (seqS (setS 5 (op2M divD (op2M subD (varM 0) (op2M powD (retM (.da (.int 10))) (retM (.da (.int 18))))) (varM 3))) (seqS (ifS (boolM (op2M gtD (varM 5) (retM (.da (.int 0))))) (retS (op2M modD (op2M modD (bltM intCallD (consM (varM 5) (retM []))) (retM (.da (.int 1009)))) (varM 2))) nxS) (seqS (setS 6 (op2M modD (bltM intCallD (consM (varM 0) (retM []))) (retM (.da (.int 1000003))))) (retS (op2M modD (Pd.bindM (consM (op2M mulD (op2M addD (varM 6) (op2M mulD (retM (.da (.int 977))) (varM 1))) (op2M addD (op2M addD (varM 6) (op2M mulD (retM (.da (.int 31))) (varM 1))) (retM (.da (.int 5))))) (consM (op2M addD (op2M modD (bltM intCallD (consM (varM 1) (retM []))) (retM (.da (.int 9)))) (retM (.da (.int 1)))) (consM (retM (.da (.int 999983))) (retM [])))) (callM (F__law_draw A))) (varM 2))))))))
def F__law_number (A : Ads) : List SV → Option Res := runN 7 3 (g__law_number A)
def g__law_next (A : Ads) : MoS :=
  (seqS (putS 0 (retM (.da (.int 2))) (op2M addD (ownIxM 0 (retM (.da (.int 2)))) (retM (.da (.int 1))))) (seqS (setS 2 (op2M divD (ownIxM 0 (retM (.da (.int 2)))) (retM (.da (.int 12))))) (seqS (setS 3 (op2M addD (Pd.bindM (consM (ownIxM 0 (retM (.da (.int 0)))) (consM (op2M addD (ownIxM 0 (retM (.da (.int 1)))) (varM 2)) (retM []))) (callM (F__law_cell_at A))) (op2M mulD (retM (.da (.int 31))) (varM 2)))) (retS (Pd.bindM (consM (varM 3) (consM (op2M addD (op2M modD (bltM intCallD (consM (ownIxM 0 (retM (.da (.int 2)))) (retM []))) (retM (.da (.int 12)))) (retM (.da (.int 1)))) (consM (varM 1) (retM [])))) (callM (F__law_number A)))))))
def F__law_next (A : Ads) : List SV → Option Res := runN 4 2 (g__law_next A)
def g__law_pick (A : Ads) : MoS :=
  (retS (op2M ixD (varM 1) (Pd.bindM (ownM 0 (consM (bltM lenD (consM (varM 1) (retM []))) (retM []))) (callM (F__law_next A)))))
def F__law_pick (A : Ads) : List SV → Option Res := runN 2 2 (g__law_pick A)
def c0__law_cluster (A : Ads) : Mo SV :=
  (lcM [4] (rg1M (consM (varM 1) (retM []))) (setM 4) (retM true) (op2M addD (retM (.da (.int 1))) (Pd.bindM (ownM 0 (consM (retM (.da (.int 5))) (retM []))) (callM (F__law_next A)))))
def c1__law_cluster (A : Ads) : Mo SV :=
  (lcM [4] (rg1M (consM (op2M addD (retM (.da (.int 1))) (Pd.bindM (ownM 0 (consM (retM (.da (.int 3))) (retM []))) (callM (F__law_next A)))) (retM []))) (setM 4) (retM true) (op2M addD (retM (.da (.int 1))) (Pd.bindM (ownM 0 (consM (retM (.da (.int 3))) (retM []))) (callM (F__law_next A)))))
def c2__law_cluster (A : Ads) : Mo SV :=
  (lcM [4] (rg1M (consM (varM 1) (retM []))) (setM 4) (retM true) (Pd.bindM (ownM 0 (consM (retM (.da (.int 3))) (retM []))) (callM (F__law_next A))))
def g__law_cluster (A : Ads) : MoS :=
  (seqS (parS 1 2 (consM (op2M addD (retM (.da (.int 2))) (Pd.bindM (ownM 0 (consM (retM (.da (.int 2))) (retM []))) (callM (F__law_next A)))) (consM (op2M addD (retM (.da (.int 1))) (ifM (boolM (op2M eqD (Pd.bindM (ownM 0 (consM (retM (.da (.int 4))) (retM []))) (callM (F__law_next A))) (retM (.da (.int 0))))) (retM (.da (.int 1))) (retM (.da (.int 0))))) (retM [])))) (seqS (setS 3 (bltM tupleD (consM (c0__law_cluster A) (retM [])))) (seqS (setS 5 (bltM tupleD (consM (c1__law_cluster A) (retM [])))) (seqS (setS 6 (bltM tupleD (consM (c2__law_cluster A) (retM [])))) (seqS (parS 7 8 (consM (op2M addD (retM (.da (.int 1))) (Pd.bindM (ownM 0 (consM (retM (.da (.int 3))) (retM []))) (callM (F__law_next A)))) (consM (op2M eqD (Pd.bindM (ownM 0 (consM (retM (.da (.int 4))) (retM []))) (callM (F__law_next A))) (retM (.da (.int 0)))) (retM [])))) (retS (makeKM A.C 2 4 F_Cluster (consM (varM 3) (consM (varM 5) (retM []))) (consM (varM 6) (consM (varM 7) (consM (varM 2) (consM (varM 8) (retM []))))))))))))
def F__law_cluster (A : Ads) : List SV → Option Res := runN 9 1 (g__law_cluster A)
def c0__law_spread (A : Ads) : Mo SV :=
  (lcM [2] (siM (varM 1)) (setM 2) (retM true) (tupM (consM (op2M ixD (fldM A.C "_zones" (varM 0)) (varM 2)) (consM (retM (.da (.int 1))) (retM [])))))
def g__law_spread (A : Ads) : MoS :=
  (retS (op2M eqD (dictLenM (c0__law_spread A)) (bltM lenD (consM (varM 1) (retM [])))))
def F__law_spread (A : Ads) : List SV → Option Res := runN 3 2 (g__law_spread A)
def c0__law_choices (A : Ads) : Mo SV :=
  (lcM [3] (siM (varM 1)) (setM 3) (retM true) (op2M addD (varM 3) (tupM (consM (varM 2) (retM [])))))
def c1__law_choices (A : Ads) : MoS :=
  (forS (rg1M (consM (bltM lenD (consM (fldM A.C "_rooms" (varM 0)) (retM []))) (retM []))) (setM 2) (setS 1 (op2M addD (varM 1) (c0__law_choices A))))
def c2__law_choices (A : Ads) : Mo SV :=
  (lcM [3] (siM (varM 1)) (setM 3) (boolM (op2M geD (bltM lenD (consM (varM 3) (retM []))) (fldM A.C "_alive" (varM 0)))) (varM 3))
def c3__law_choices (A : Ads) : Mo SV :=
  (lcM [3] (siM (varM 4)) (setM 3) (boolM (Pd.bindM (consM (varM 0) (consM (varM 3) (retM []))) (callM (F__law_spread A)))) (varM 3))
def g__law_choices (A : Ads) : MoS :=
  (seqS (setS 1 (lstM (consM (tupM (retM [])) (retM [])))) (seqS (c1__law_choices A) (seqS (setS 4 (c2__law_choices A)) (seqS (ifS (boolM (fldM A.C "_apart" (varM 0))) (setS 4 (c3__law_choices A)) nxS) (retS (bltM sortedD (consM (varM 4) (retM []))))))))
def F__law_choices (A : Ads) : List SV → Option Res := runN 5 1 (g__law_choices A)
def c0__law_held (A : Ads) : Mo SV :=
  (lcM [5, 6] (ztM (consM (fldM A.C "_sizes" (varM 0)) (consM (varM 1) (retM [])))) (tupG 2 (consG (setM 5) (consG (setM 6) nilG))) (boolM (op2M (inD false) (varM 3) (varM 6))) (varM 5))
def c1__law_held (A : Ads) : MoS :=
  (forS (rg1M (consM (bltM lenD (consM (fldM A.C "_rooms" (varM 0)) (retM []))) (retM []))) (setM 3) (seqS (setS 4 (c0__law_held A)) (appS 2 (bltM sumD (consM (varM 4) (retM []))))))
def g__law_held (A : Ads) : MoS :=
  (seqS (ownS 2 (newLM (retM []))) (seqS (c1__law_held A) (frzS 2 2 (retS (varM 2)))))
def F__law_held (A : Ads) : List SV → Option Res := runN 7 2 (g__law_held A)
def c0__law_fits (A : Ads) : MoS :=
  (forS (zmM (consM (Pd.bindM (consM (varM 0) (consM (varM 1) (retM []))) (callM (F__law_held A))) (consM (fldM A.C "_rooms" (varM 0)) (retM [])))) (tupG 2 (consG (setM 2) (consG (setM 3) nilG))) (ifS (boolM (op2M gtD (varM 2) (varM 3))) (retS (retM (.da (.bool false)))) nxS))
def g__law_fits (A : Ads) : MoS :=
  (seqS (c0__law_fits A) (retS (retM (.da (.bool true)))))
def F__law_fits (A : Ads) : List SV → Option Res := runN 4 2 (g__law_fits A)
def c0__law_longer (A : Ads) : Mo SV :=
  (lcM [5] (siM (Pd.bindM (consM (varM 0) (retM [])) (callM (F__law_choices A)))) (setM 5) (retM true) (op2M addD (varM 3) (tupM (consM (varM 5) (retM [])))))
def c1__law_longer (A : Ads) : Mo SV :=
  (lcM [6] (siM (varM 4)) (setM 6) (boolM (Pd.bindM (consM (varM 0) (consM (varM 6) (retM []))) (callM (F__law_fits A)))) (varM 6))
def c2__law_longer (A : Ads) : MoS :=
  (forS (siM (varM 1)) (setM 3) (seqS (setS 4 (c0__law_longer A)) (setS 2 (op2M addD (varM 2) (c1__law_longer A)))))
def g__law_longer (A : Ads) : MoS :=
  (seqS (setS 2 (lstM (retM []))) (seqS (c2__law_longer A) (retS (varM 2))))
def F__law_longer (A : Ads) : List SV → Option Res := runN 7 2 (g__law_longer A)
def c0__law_every (A : Ads) : MoS :=
  (forS (siM (fldM A.C "_sizes" (varM 0))) (setM 2) (setS 1 (Pd.bindM (consM (varM 0) (consM (varM 1) (retM []))) (callM (F__law_longer A)))))
def g__law_every (A : Ads) : MoS :=
  (seqS (setS 1 (lstM (consM (tupM (retM [])) (retM [])))) (seqS (c0__law_every A) (retS (varM 1))))
def F__law_every (A : Ads) : List SV → Option Res := runN 3 1 (g__law_every A)
def g__law_with (A : Ads) : MoS :=
  (retS (op2M addD (op2M addD (sliceM (varM 0) (retM none) (partM (varM 1))) (tupM (consM (bltM tupleD (consM (bltM sortedD (consM (varM 2) (retM []))) (retM []))) (retM [])))) (sliceM (varM 0) (partM (op2M addD (varM 1) (retM (.da (.int 1))))) (retM none))))
def F__law_with (A : Ads) : List SV → Option Res := runN 3 3 (g__law_with A)
def c0__law_moves (A : Ads) : MoS :=
  (forS (rg1M (consM (bltM lenD (consM (fldM A.C "_rooms" (varM 0)) (retM []))) (retM []))) (setM 8) (seqS (setS 9 (Pd.bindM (consM (varM 1) (consM (varM 5) (consM (op2M addD (varM 6) (tupM (consM (varM 8) (retM [])))) (retM [])))) (callM (F__law_with A)))) (seqS (ifS (orM (boolM (op2M (inD false) (varM 8) (varM 6))) (boolM (op2M (inD true) (op2M ixD (varM 9) (varM 5)) (varM 2)))) (fun env => some (.ct env)) nxS) (ifS (boolM (Pd.bindM (consM (varM 0) (consM (varM 9) (retM []))) (callM (F__law_fits A)))) (seqS (setS 10 (op2M ixD (fldM A.C "_sizes" (varM 0)) (varM 5))) (seqS (ifS (boolM (op2M neD (op2M ixD (fldM A.C "_zones" (varM 0)) (varM 7)) (op2M ixD (fldM A.C "_zones" (varM 0)) (varM 8)))) (setS 10 (op2M mulD (varM 10) (fldM A.C "_far" (varM 0)))) nxS) (appS 3 (tupM (consM (tupM (consM (retM (.da (.str "copy"))) (consM (varM 5) (consM (varM 7) (consM (varM 8) (retM [])))))) (consM (varM 9) (consM (varM 10) (retM [])))))))) nxS))))
def c1__law_moves (A : Ads) : Mo SV :=
  (lcM [12] (siM (varM 6)) (setM 12) (boolM (op2M neD (varM 12) (varM 7))) (varM 12))
def c2__law_moves (A : Ads) : MoS :=
  (forS (siM (varM 6)) (setM 7) (seqS (c0__law_moves A) (seqS (setS 11 (c1__law_moves A)) (seqS (setS 9 (Pd.bindM (consM (varM 1) (consM (varM 5) (consM (varM 11) (retM [])))) (callM (F__law_with A)))) (ifS (boolM (op2M (inD false) (op2M ixD (varM 9) (varM 5)) (varM 2))) (appS 4 (tupM (consM (tupM (consM (retM (.da (.str "drop"))) (consM (varM 5) (consM (varM 7) (retM []))))) (consM (varM 9) (consM (retM (.da (.int 1))) (retM [])))))) nxS)))))
def c3__law_moves (A : Ads) : MoS :=
  (forS (eiM (consM (varM 1) (retM []))) (tupG 2 (consG (setM 5) (consG (setM 6) nilG))) (c2__law_moves A))
def g__law_moves (A : Ads) : MoS :=
  (seqS (parOS 2 3 4 (Pd.bindM (consM (varM 0) (retM [])) (callM (F__law_choices A)))) (seqS (c3__law_moves A) (frzS 2 3 (frzS 2 4 (retS (op2M addD (varM 3) (varM 4)))))))
def F__law_moves (A : Ads) : List SV → Option Res := runN 13 2 (g__law_moves A)
def g__law_any (A : Ads) : MoS :=
  (seqS (parS 2 3 (consM (Pd.bindM (ownM 0 (consM (bltM lenD (consM (fldM A.C "_sizes" (varM 1)) (retM []))) (retM []))) (callM (F__law_next A))) (consM (Pd.bindM (ownM 0 (consM (bltM lenD (consM (fldM A.C "_rooms" (varM 1)) (retM []))) (retM []))) (callM (F__law_next A))) (retM [])))) (seqS (ifS (boolM (op2M eqD (Pd.bindM (ownM 0 (consM (retM (.da (.int 3))) (retM []))) (callM (F__law_next A))) (retM (.da (.int 0))))) (retS (tupM (consM (retM (.da (.str "drop"))) (consM (varM 2) (consM (varM 3) (retM [])))))) nxS) (retS (tupM (consM (retM (.da (.str "copy"))) (consM (varM 2) (consM (varM 3) (consM (Pd.bindM (ownM 0 (consM (bltM lenD (consM (fldM A.C "_rooms" (varM 1)) (retM []))) (retM []))) (callM (F__law_next A))) (retM [])))))))))
def F__law_any (A : Ads) : List SV → Option Res := runN 4 2 (g__law_any A)
def c0__law_step_right (A : Ads) : Mo SV :=
  (lcM [5, 6, 7] (siM (varM 3)) (tupG 3 (consG (setM 5) (consG (setM 6) (consG (setM 7) nilG)))) (boolM (op2M eqD (varM 5) (varM 2))) (tupM (consM (varM 6) (consM (varM 7) (retM [])))))
def g__law_step_right (A : Ads) : MoS :=
  (seqS (setS 3 (Pd.bindM (consM (varM 0) (consM (varM 1) (retM []))) (callM (F__law_moves A)))) (seqS (setS 4 (c0__law_step_right A)) (seqS (setS 8 (ifM (boolM (op2M neD (varM 4) (lstM (retM [])))) (op2M ixD (varM 4) (retM (.da (.int 0)))) (tupM (consM (tupM (consM (retM (.da (.str "bad"))) (consM (retM (.da .none)) (retM [])))) (consM (tupM (consM (retM (.da (.str "bad"))) (consM (retM (.da .none)) (retM [])))) (retM [])))))) (seqS (ifS (boolM (op2M neD (toldB A.CB A.CS "bad" (Pd.bindM (consM (varM 0) (consM (varM 1) (consM (varM 2) (retM [])))) (callM (F_after A)))) (op2M ixD (varM 8) (retM (.da (.int 0)))))) (retS (retM (.da (.bool false)))) nxS) (retS (op2M eqD (toldB A.CB A.CS "bad" (Pd.bindM (consM (varM 0) (consM (varM 1) (consM (varM 2) (retM [])))) (callM (F_price A)))) (op2M ixD (varM 8) (retM (.da (.int 1))))))))))
def F__law_step_right (A : Ads) : List SV → Option Res := runN 9 3 (g__law_step_right A)
def c0__law_way_right (A : Ads) : MoS :=
  (forS (rg1M (consM (retM (.da (.int 6))) (retM []))) (setM 6) (seqS (setS 7 (Pd.bindM (consM (varM 1) (consM (op2M ixD (varM 3) (negM (retM (.da (.int 1))))) (retM []))) (callM (F__law_moves A)))) (ifS (boolM (op2M neD (varM 7) (lstM (retM [])))) (seqS (asgS (Pd.bindM (ownM 0 (consM (varM 7) (retM []))) (callM (F__law_pick A))) (tupG 3 (consG (setM 8) (consG (setM 9) (consG (setM 10) nilG))))) (parS3 3 4 5 (consM (op2M addD (varM 3) (lstM (consM (varM 9) (retM [])))) (consM (op2M addD (varM 4) (lstM (consM (varM 8) (retM [])))) (consM (op2M addD (varM 5) (varM 10)) (retM [])))))) nxS)))
def c1__law_way_right (A : Ads) : Mo SV :=
  (lcM [12, 9, 10] (siM (Pd.bindM (consM (varM 1) (consM (op2M ixD (varM 3) (varM 11)) (retM []))) (callM (F__law_moves A)))) (tupG 3 (consG (setM 12) (consG (setM 9) (consG (setM 10) nilG)))) (retM true) (varM 12))
def g__law_way_right (A : Ads) : MoS :=
  (seqS (parS3 3 4 5 (consM (lstM (consM (varM 2) (retM []))) (consM (lstM (retM [])) (consM (retM (.da (.int 0))) (retM []))))) (seqS (c0__law_way_right A) (seqS (ifS (boolM (op2M neD (Pd.bindM (consM (varM 1) (consM (varM 2) (consM (bltM tupleD (consM (varM 4) (retM []))) (retM [])))) (callM (F_walk A))) (varM 3))) (retS (retM (.da (.bool false)))) nxS) (seqS (ifS (boolM (op2M neD (Pd.bindM (consM (varM 1) (consM (varM 2) (consM (varM 4) (retM [])))) (callM (F_cost A))) (varM 5))) (retS (retM (.da (.bool false)))) nxS) (seqS (setS 11 (Pd.bindM (ownM 0 (consM (op2M addD (bltM lenD (consM (varM 4) (retM []))) (retM (.da (.int 1)))) (retM []))) (callM (F__law_next A)))) (seqS (setS 8 (Pd.bindM (ownM 0 (consM (varM 1) (retM []))) (callM (F__law_any A)))) (seqS (ifS (boolM (op2M (inD false) (varM 8) (c1__law_way_right A))) (retS (retM (.da (.bool true)))) nxS) (seqS (setS 13 (op2M addD (op2M addD (sliceM (varM 4) (retM none) (partM (varM 11))) (lstM (consM (varM 8) (retM [])))) (sliceM (varM 4) (partM (varM 11)) (retM none)))) (seqS (ifS (boolM (op2M neD (toldB A.CB A.CS "bad" (Pd.bindM (consM (varM 1) (consM (varM 2) (consM (varM 13) (retM [])))) (callM (F_walk A)))) (tupM (consM (retM (.da (.str "bad"))) (consM (varM 11) (retM [])))))) (retS (retM (.da (.bool false)))) nxS) (retS (op2M eqD (toldB A.CB A.CS "bad" (Pd.bindM (consM (varM 1) (consM (varM 2) (consM (varM 13) (retM [])))) (callM (F_cost A)))) (tupM (consM (retM (.da (.str "bad"))) (consM (varM 11) (retM [])))))))))))))))
def F__law_way_right (A : Ads) : List SV → Option Res := runN 14 3 (g__law_way_right A)
def c0__law_cluster_right (A : Ads) : Mo SV :=
  (lcM [6] (siM (fldM A.C "_sizes" (varM 1))) (setM 6) (retM true) (Pd.bindM (ownM 0 (consM (varM 4) (retM []))) (callM (F__law_pick A))))
def c1__law_cluster_right (A : Ads) : MoS :=
  (forS (rg1M (consM (retM (.da (.int 4))) (retM []))) (setM 3) (seqS (setS 4 (op2M addD (Pd.bindM (consM (varM 1) (retM [])) (callM (F__law_choices A))) (lstM (consM (tupM (retM [])) (consM (tupM (consM (retM (.da (.int 0))) (retM []))) (consM (tupM (consM (retM (.da (.int 0))) (consM (retM (.da (.int 1))) (retM [])))) (retM []))))))) (seqS (setS 5 (bltM tupleD (consM (c0__law_cluster_right A) (retM [])))) (ifS (boolM (op2M neD (Pd.bindM (consM (varM 1) (consM (varM 5) (retM []))) (callM (F_is_placing A))) (op2M (inD false) (varM 5) (varM 2)))) (retS (retM (.da (.bool false)))) nxS))))
def c2__law_cluster_right (A : Ads) : Mo SV :=
  (lcM [8, 9, 10] (siM (Pd.bindM (consM (varM 1) (consM (varM 7) (retM []))) (callM (F__law_moves A)))) (tupG 3 (consG (setM 8) (consG (setM 9) (consG (setM 10) nilG)))) (retM true) (varM 8))
def c3__law_cluster_right (A : Ads) : MoS :=
  (forS (siM (op2M addD (varM 4) (lstM (consM (Pd.bindM (ownM 0 (consM (varM 1) (retM []))) (callM (F__law_any A))) (retM []))))) (setM 8) (ifS (notM (boolM (Pd.bindM (consM (varM 1) (consM (varM 7) (consM (varM 8) (retM [])))) (callM (F__law_step_right A))))) (retS (retM (.da (.bool false)))) nxS))
def c4__law_cluster_right (A : Ads) : MoS :=
  (forS (rg1M (consM (retM (.da (.int 4))) (retM []))) (setM 3) (seqS (setS 7 (Pd.bindM (ownM 0 (consM (varM 2) (retM []))) (callM (F__law_pick A)))) (seqS (ifS (boolM (op2M neD (Pd.bindM (consM (varM 1) (consM (varM 7) (retM []))) (callM (F_loads A))) (Pd.bindM (consM (varM 1) (consM (varM 7) (retM []))) (callM (F__law_held A))))) (retS (retM (.da (.bool false)))) nxS) (seqS (setS 4 (c2__law_cluster_right A)) (seqS (ifS (boolM (op2M neD (Pd.bindM (consM (varM 1) (consM (varM 7) (retM []))) (callM (F_steps A))) (varM 4))) (retS (retM (.da (.bool false)))) nxS) (seqS (c3__law_cluster_right A) (ifS (notM (boolM (Pd.bindM (ownM 0 (consM (varM 1) (consM (varM 7) (retM [])))) (callM (F__law_way_right A))))) (retS (retM (.da (.bool false)))) nxS)))))))
def g__law_cluster_right (A : Ads) : MoS :=
  (seqS (setS 2 (Pd.bindM (consM (varM 1) (retM [])) (callM (F__law_every A)))) (seqS (ifS (boolM (op2M neD (Pd.bindM (consM (varM 1) (retM [])) (callM (F_placings A))) (varM 2))) (retS (retM (.da (.bool false)))) nxS) (seqS (c1__law_cluster_right A) (seqS (ifS (boolM (op2M eqD (varM 2) (lstM (retM [])))) (retS (retM (.da (.bool true)))) nxS) (seqS (c4__law_cluster_right A) (retS (retM (.da (.bool true)))))))))
def F__law_cluster_right (A : Ads) : List SV → Option Res := runN 11 2 (g__law_cluster_right A)
def c0_law (A : Ads) : MoS :=
  (forS (rg3M (consM (retM (.da (.int 0))) (consM (bltM max2D (consM (retM (.da (.int 1))) (consM (bltM min2D (consM (retM (.da (.int 16))) (consM (bltM lenD (consM (varM 0) (retM []))) (retM [])))) (retM [])))) (consM (retM (.da (.int 4))) (retM []))))) (setM 1) (thawS 1 2 (seqS (ownS 2 (newLM (consM (varM 0) (consM (varM 1) (consM (retM (.da (.int 0))) (retM [])))))) (ifS (notM (boolM (Pd.bindM (ownM 2 (consM (Pd.bindM (ownM 2 (retM [])) (callM (F__law_cluster A))) (retM []))) (callM (F__law_cluster_right A))))) (retS (retM (.da (.bool false)))) nxS))))
def g_law (A : Ads) : MoS :=
  (seqS (c0_law A) (retS (retM (.da (.bool true)))))
def F_law (A : Ads) : List SV → Option Res := runN 3 1 (g_law A)
end K01
end
section
set_option Elab.async false
set_option linter.all false
set_option maxRecDepth 100000
set_option maxHeartbeats 4000000
namespace K01
open PySem PySem.Spec PyProof.Rows L2 Pd
section
variable (P : Program) (w : World) (K : PySem.W.Frag) (mg : Str → Option Value) (base : Heap) (tbs : List (Addr × Str))
structure Facts (A : Ads) : Prop where
  m_all : mg "all" = none
  m_bool : mg "bool" = none
  m_dict : mg "dict" = none
  m_enumerate : mg "enumerate" = none
  m_int : mg "int" = none
  m_isinstance : mg "isinstance" = none
  m_len : mg "len" = none
  m_list : mg "list" = none
  m_max : mg "max" = none
  m_min : mg "min" = none
  m_range : mg "range" = none
  m_sorted : mg "sorted" = none
  m_str : mg "str" = none
  m_sum : mg "sum" = none
  m_tuple : mg "tuple" = none
  m_zip : mg "zip" = none
  c_MOST_PLACINGS : ∃ t, mg "MOST_PLACINGS" = some (.int 2000 t)
  p_rooms : PropD P w K mg base A.C "rooms" "_rooms" 1
  p_sizes : PropD P w K mg base A.C "sizes" "_sizes" 1
  p_zones : PropD P w K mg base A.C "zones" "_zones" 1
  p_far : PropD P w K mg base A.C "far" "_far" 1
  p_alive : PropD P w K mg base A.C "alive" "_alive" 1
  p_apart : PropD P w K mg base A.C "apart" "_apart" 1
  y_BadSteps : RaiS P w K mg base A.CS "index"
  q_told : ToldF K mg A.CB A.CS "_law_told" "what" "word" "error" (defBody (topS 55)) (defScope (topS 55))
  n_Cluster : InitAt K tbs A.C
  z_Cluster : ClsK K A.C
  x_BadStep : RaiC K A.CB
  k_Cluster : mg "Cluster" = some (.ref A.C)
  k_BadStep : mg "BadStep" = some (.ref A.CB)
  k_BadSteps : mg "BadSteps" = some (.ref A.CS)
  f_is_number : DefAt K mg "is_number" s_is_number ["value", "low", "high"]
  f_are_numbers : DefAt K mg "are_numbers" s_are_numbers ["value", "low", "high"]
  f_is_ascending : DefAt K mg "is_ascending" s_is_ascending ["value", "count"]
  f_check_cluster : DefAt K mg "check_cluster" s_check_cluster ["value"]
  f_may_lie : DefAt K mg "may_lie" s_may_lie ["cluster", "machines"]
  f_held : DefAt K mg "held" s_held ["cluster", "placing"]
  f_fits : DefAt K mg "fits" s_fits ["cluster", "placing"]
  f_is_placing : DefAt K mg "is_placing" s_is_placing ["cluster", "value"]
  f_subsets : DefAt K mg "subsets" s_subsets ["count"]
  f__choices : DefAt K mg "_choices" s__choices ["cluster"]
  f__collect : DefAt K mg "_collect" s__collect ["cluster", "choices", "start", "free", "found"]
  f_placings : DefAt K mg "placings" s_placings ["cluster"]
  f_check_placing : DefAt K mg "check_placing" s_check_placing ["cluster", "value"]
  f_loads : DefAt K mg "loads" s_loads ["cluster", "placing"]
  f__replaced : DefAt K mg "_replaced" s__replaced ["cluster", "placing", "shard", "machines"]
  f__copied : DefAt K mg "_copied" s__copied ["cluster", "placing", "sums", "shard", "target"]
  f__dropped : DefAt K mg "_dropped" s__dropped ["cluster", "placing", "shard", "machine"]
  f_moves : DefAt K mg "moves" s_moves ["cluster", "placing"]
  f_steps : DefAt K mg "steps" s_steps ["cluster", "placing"]
  f_has_form : DefAt K mg "has_form" s_has_form ["cluster", "value"]
  f_placing_after : DefAt K mg "placing_after" s_placing_after ["cluster", "placing", "step"]
  f_after : DefAt K mg "after" s_after ["cluster", "placing", "step"]
  f_step_price : DefAt K mg "step_price" s_step_price ["cluster", "step"]
  f_price : DefAt K mg "price" s_price ["cluster", "placing", "step"]
  f_walk : DefAt K mg "walk" s_walk ["cluster", "placing", "way"]
  f_way_price : DefAt K mg "way_price" s_way_price ["cluster", "way"]
  f_cost : DefAt K mg "cost" s_cost ["cluster", "placing", "way"]
  f__law_cell_at : DefAt K mg "_law_cell_at" s__law_cell_at ["script", "k"]
  f__law_draw : DefAt K mg "_law_draw" s__law_draw ["cell", "k", "bound"]
  f__law_number : DefAt K mg "_law_number" s__law_number ["cell", "k", "bound"]
  f__law_next : DefAt K mg "_law_next" s__law_next ["draw", "bound"]
  f__law_pick : DefAt K mg "_law_pick" s__law_pick ["draw", "things"]
  f__law_cluster : DefAt K mg "_law_cluster" s__law_cluster ["draw"]
  f__law_spread : DefAt K mg "_law_spread" s__law_spread ["cluster", "some"]
  f__law_choices : DefAt K mg "_law_choices" s__law_choices ["cluster"]
  f__law_held : DefAt K mg "_law_held" s__law_held ["cluster", "placing"]
  f__law_fits : DefAt K mg "_law_fits" s__law_fits ["cluster", "placing"]
  f__law_longer : DefAt K mg "_law_longer" s__law_longer ["cluster", "rows"]
  f__law_every : DefAt K mg "_law_every" s__law_every ["cluster"]
  f__law_with : DefAt K mg "_law_with" s__law_with ["placing", "shard", "some"]
  f__law_moves : DefAt K mg "_law_moves" s__law_moves ["cluster", "placing"]
  f__law_any : DefAt K mg "_law_any" s__law_any ["draw", "cluster"]
  f__law_step_right : DefTab K mg base tbs "_law_step_right" s__law_step_right ["cluster", "placing", "step"] (("_law_step_right" ++ ".<locals>.") ++ "<lambda>")
  f__law_way_right : DefTab K mg base tbs "_law_way_right" s__law_way_right ["draw", "cluster", "placing"] (("_law_way_right" ++ ".<locals>.") ++ "<lambda>")
  f__law_cluster_right : DefAt K mg "_law_cluster_right" s__law_cluster_right ["draw", "cluster"]
  f_law : DefAt K mg "law" s_law ["script"]
end
section
variable {P : Program} {w : World} {K : PySem.W.Frag} {mg : Str → Option Value} {base : Heap} {A : Ads} {tbs : List (Addr × Str)}
theorem sc_is_number : FnScope ["value", "low", "high"] ["value", "low", "high"] (defScope s_is_number) := ⟨rfl, rfl, rfl, by decide +kernel, rfl, by decide +kernel, by decide +kernel⟩
theorem B_is_number (T : Facts P w K mg base tbs A) : FnB P w K mg base tbs "is_number" 2 3 (F_is_number A) := by
  obtain ⟨f, fd, h1, h2, h3⟩ := T.f_is_number.ex
  have nd := (sc_is_number).nd
  exact fnb_of (k := 1) (g := g_is_number A) h1 sc_is_number h2 h3 (by decide) fun cdv Ar outer s H E hr =>
    (pds_one (pds_ret (pd_and (pd_isi (T := "int") (by rfl) T.m_isinstance (pd_var 0 (pv 0)) (pe_bltn (by rfl) T.m_int bt_int rfl)) (pd_and (pd_not (pd_isi (T := "bool") (by rfl) T.m_isinstance (pd_var 0 (pv 0)) (pe_bltn (by rfl) T.m_bool bt_bool rfl))) (pd_one (pd_chain opd_le opd_le (pd_var 1 (pv 1)) (pd_var 0 (pv 0)) (pd_var 2 (pv 2))))))))
theorem sc_are_numbers : FnScope ["value", "low", "high", "item"] ["value", "low", "high"] (defScope s_are_numbers) := ⟨rfl, rfl, rfl, by decide +kernel, rfl, by decide +kernel, by decide +kernel⟩
theorem B_are_numbers (T : Facts P w K mg base tbs A) : FnB P w K mg base tbs "are_numbers" 3 3 (F_are_numbers A) := by
  obtain ⟨f, fd, h1, h2, h3⟩ := T.f_are_numbers.ex
  have nd := (sc_are_numbers).nd
  exact fnb_of (k := 2) (g := g_are_numbers A) h1 sc_are_numbers h2 h3 (by decide) fun cdv Ar outer s H E hr =>
    (pds_one (pds_ret (pd_and (pd_isi (T := "tuple") (by rfl) T.m_isinstance (pd_var 0 (pv 0)) (pe_bltn (by rfl) T.m_tuple bt_tuple rfl)) (pd_one (pd_callB (cd_all rfl) (by rfl) T.m_all bt_all (pda_cons (pd_lc rfl nd (pdi_seq (pd_var 0 (pv 0))) (blkOk_by (own := [("item", 3)]) (by kernel_rfl)) (fun _ _ _ _ _ => (pdg_name 3 (pg_name nd rfl (by first | exact .inl rfl | exact .inr rfl)))) (fun _ _ _ _ _ => pdts_nil) (fun _ _ _ _ _ => (pd_call (B_is_number T) hr (by first | decide | omega) (by rfl) passB (pda_cons (pd_var 3 (pv 3)) (pda_cons (pd_var 1 (pv 1)) (pda_cons (pd_var 2 (pv 2)) pda_nil)))))) pda_nil))))))
end

end K01
end
section
set_option Elab.async false
set_option linter.all false
set_option maxRecDepth 100000
set_option maxHeartbeats 4000000
namespace Pd
open PySem PySem.Spec PyProof.Rows L2
/-! ### what meanings give -/
/-- one turn of a list comprehension -/
def stepV (vs : List Nat) (g : SV → Mo Unit) (tt : Mo Bool) (te : Mo SV) (env : PEnv) (d : PyData) : Option (Option PyData × PEnv) :=
  if vs.all (fun i => !isOD env i) = true then (match g (.da d) (wipeE env vs) with
    | some (.ok _ e1) => (match tt e1 with
      | some (.ok true e2) => (match te e2 with
        | some (.ok (.da y) e3) => some (some y, mergeE env e3)
        | _ => none)
      | some (.ok false e2) => some (none, mergeE env e2)
      | _ => none)
    | _ => none) else none
theorem lcGo_eq {vs : List Nat} {g : SV → Mo Unit} {tt : Mo Bool} {te : Mo SV} {env : PEnv} (f : PyData → Option PyData) : ∀ {ds acc : List PyData}, (∀ d ∈ ds, stepV vs g tt te env d = some (f d, env)) → lcGo vs g tt te ds acc env = some (.ok (acc ++ ds.filterMap f) env)
  | [], acc, _ => by simp [lcGo, retM]
  | d :: ds, acc, h => by
    have hd := h d (.head _)
    have ht : ∀ acc, (∀ d ∈ ds, stepV vs g tt te env d = some (f d, env)) → lcGo vs g tt te ds acc env = some (.ok (acc ++ ds.filterMap f) env) := fun acc hh => lcGo_eq f hh
    unfold stepV at hd
    unfold lcGo
    split at hd
    · rename_i hv
      rw [if_pos hv]
      split at hd
      · rename_i e1 q1
        try rw [q1]
        try dsimp only
        split at hd
        · rename_i e2 q2
          try rw [q2]
          try dsimp only
          split at hd
          · rename_i y e3 q3
            try rw [q3]
            try dsimp only
            have hd := Option.some.inj hd
            have h1 : some y = f d := congrArg (·.1) hd
            have h2 : mergeE env e3 = env := congrArg (·.2) hd
            rw [h2, ht _ fun d' hd' => h d' (.tail _ hd')]
            simp [← h1]
          · cases hd
        · rename_i e2 q2
          try rw [q2]
          try dsimp only
          have hd := Option.some.inj hd
          have h1 : none = f d := congrArg (·.1) hd
          have h2 : mergeE env e2 = env := congrArg (·.2) hd
          rw [h2, ht _ fun d' hd' => h d' (.tail _ hd')]
          simp [← h1]
        · cases hd
      · cases hd
    · cases hd
theorem lcM_eq {vs : List Nat} {fi : Mo (List PyData)} {g : SV → Mo Unit} {tt : Mo Bool} {te : Mo SV} {env env1 : PEnv} {ds : List PyData} (f : PyData → Option PyData) (hfi : fi env = some (.ok ds env1)) (hl : ds.length ≤ LIM) (hs : ∀ d ∈ ds, stepV vs g tt te env1 d = some (f d, env1)) :
    lcM vs fi g tt te env = some (.ok (.da (.list (ds.filterMap f))) env1) := by
  unfold lcM bindM
  rw [hfi]
  dsimp only
  rw [if_pos hl]
  simp only [liftO]
  rw [lcGo_eq f hs]
  rfl

theorem all_map_bool {α : Type} (p : α → Bool) : ∀ l : List α, boolsOf (l.map fun a => PyData.bool (p a)) = some (l.map p)
  | [] => rfl
  | a :: l => by
    show boolsOf (.bool (p a) :: l.map fun a => PyData.bool (p a)) = _
    unfold boolsOf
    rw [all_map_bool p l]
    rfl
end Pd
end
section
set_option Elab.async false
set_option linter.all false
set_option maxRecDepth 100000
set_option maxHeartbeats 4000000
namespace K01
open PySem Pd
theorem kb1 : L2.kitB "int" "int" = some true := by rfl
theorem kb2 : L2.kitB "int" "bool" = some false := by rfl
theorem kb3 : L2.kitB "tuple" "tuple" = some true := by rfl
theorem v_is_number (A : Ads) (d : PyData) (lo hi : Int) : F_is_number A [.da d, .da (.int lo), .da (.int hi)] = some (.ret (.da (.bool (numOk lo hi d))) []) := by
  cases d with
  | int i =>
    unfold F_is_number g_is_number
    by_cases h1 : lo ≤ i <;> by_cases h2 : i ≤ hi <;> simp [Pd.runN, Pd.runF, Pd.seqS, Pd.ifS, Pd.retS, Pd.withE, Pd.andV, Pd.orV, Pd.boolM, Pd.notM, Pd.andM, Pd.orM, Pd.ifM, Pd.isiM, Pd.bindM, Pd.varM, Pd.liftO, Pd.isiD, Pd.tyOfD, Pd.asB, Pd.notV, Pd.chainM, Pd.op2M, Pd.leD, Pd.ltD, Pd.gtD, Pd.geD, Pd.eqD, Pd.neD, Pd.intD, Pd.retM, Pd.outOf, Pd.ownAt, Pd.bltM, Pd.vals, Pd.lenD, Pd.allD, Pd.consM, Pd.callM, Pd.ownSlots, Pd.svsOf, Pd.svOf, Pd.setOwn, Pd.nxS, Pd.setM, Pd.isOwn, Pd.isOD, Pd.isDic, Pd.wipeE, Pd.mergeE, Pd.numOk, kb1, kb2, h1, h2]
  | _ => rfl
theorem fmap_some {α : Type} (f : PyData → α) (ds : List PyData) : ds.filterMap (fun d => some (f d)) = ds.map f := by
  induction ds with
  | nil => rfl
  | cons d ds ih => simp
theorem w_are_numbers (A : Ads) (ds : List PyData) (lo hi : Int) (x : Option SV) (hx : x = none) (hl : ds.length ≤ LIM) : c0_are_numbers A [some (.da (.tuple ds)), some (.da (.int lo)), some (.da (.int hi)), x] = some (.ok (.da (.list (ds.map fun d => .bool (numOk lo hi d)))) [some (.da (.tuple ds)), some (.da (.int lo)), some (.da (.int hi)), x]) := by
  subst hx
  unfold c0_are_numbers
  rw [lcM_eq (env1 := [some (.da (.tuple ds)), some (.da (.int lo)), some (.da (.int hi)), none]) (ds := ds) (fun d => some (.bool (numOk lo hi d))) (by rfl) hl (fun d _ => by
    unfold stepV
    simp [Pd.runN, Pd.runF, Pd.seqS, Pd.ifS, Pd.retS, Pd.withE, Pd.andV, Pd.orV, Pd.boolM, Pd.notM, Pd.andM, Pd.orM, Pd.ifM, Pd.isiM, Pd.bindM, Pd.varM, Pd.liftO, Pd.isiD, Pd.tyOfD, Pd.asB, Pd.notV, Pd.chainM, Pd.op2M, Pd.leD, Pd.ltD, Pd.gtD, Pd.geD, Pd.eqD, Pd.neD, Pd.intD, Pd.retM, Pd.outOf, Pd.ownAt, Pd.bltM, Pd.vals, Pd.lenD, Pd.allD, Pd.consM, Pd.callM, Pd.ownSlots, Pd.svsOf, Pd.svOf, Pd.setOwn, Pd.nxS, Pd.setM, Pd.isOwn, Pd.isOD, Pd.isDic, Pd.wipeE, Pd.mergeE, v_is_number]), fmap_some]
theorem v_are_numbers (A : Ads) (ds : List PyData) (lo hi : Int) (hl : ds.length ≤ LIM) : F_are_numbers A [.da (.tuple ds), .da (.int lo), .da (.int hi)] = some (.ret (.da (.bool (ds.all (numOk lo hi)))) []) := by
  unfold F_are_numbers g_are_numbers
  simp [Pd.runN, Pd.runF, Pd.seqS, Pd.ifS, Pd.retS, Pd.withE, Pd.andV, Pd.orV, Pd.boolM, Pd.notM, Pd.andM, Pd.orM, Pd.ifM, Pd.isiM, Pd.bindM, Pd.varM, Pd.liftO, Pd.isiD, Pd.tyOfD, Pd.asB, Pd.notV, Pd.chainM, Pd.op2M, Pd.leD, Pd.ltD, Pd.gtD, Pd.geD, Pd.eqD, Pd.neD, Pd.intD, Pd.retM, Pd.outOf, Pd.ownAt, Pd.bltM, Pd.vals, Pd.lenD, Pd.allD, Pd.consM, Pd.callM, Pd.ownSlots, Pd.svsOf, Pd.svOf, Pd.setOwn, Pd.nxS, Pd.setM, Pd.isOwn, Pd.isOD, Pd.isDic, Pd.wipeE, Pd.mergeE, kb3, w_are_numbers A ds lo hi none rfl hl, all_map_bool, List.all_map, Function.comp_def]
end K01
end
section
set_option Elab.async false
set_option linter.all false
set_option maxRecDepth 100000
set_option maxHeartbeats 4000000
namespace K01
open PySem PySem.Spec L2 Pd
open PyProof.Rows (envOfC)
section
variable {P : Program} {w : World} {K : PySem.W.Frag} {mg : Str → Option Value} {base : Heap} {A : Ads} {tbs : List (Addr × Str)}
abbrev initN : List Str := ["self", "rooms", "sizes", "zones", "far", "alive", "apart"]
theorem sc_init : FnScope initN initN (defScope s_init) := ⟨rfl, rfl, rfl, by decide +kernel, rfl, by decide +kernel, by decide +kernel⟩
theorem kb_init {fI : Addr} {fd : FuncData} (FD : FunD K "__init__" "Cluster.__init__" (defArgs s_init) (defBody s_init) (defScope s_init) [] [("zones", .non), ("far", .int 1), ("alive", .int 1), ("apart", .bl false)] fI fd) :
    KBn K fd initN 3 ["zones", "far", "alive", "apart"] (fun us ws => us ++ ws) (fun us ws => us ++ ws) := by
  obtain ⟨mv, h⟩ := FD.kbinds0 (ps := initN) 3 ["zones", "far", "alive", "apart"] [] (fun us _ ws => us ++ ws) (by simp) (fun q hq => absurd hq (by simp)) (fun r1 _ r2 => r1.append r2) (fun D doc pm an cdv ct us mv ws h1 h2 h3 => by
    match us, h1, ws, h3 with
    | [_, _, _], _, [_, _, _, _], _ => rfl)
  exact h
def PCk (X : Cx) (E : Wish) (st : List Stmt) (ms : List (Mo Bool)) (t : TS) : Prop := ∃ t', PSs X st t' ∧ ∀ (T : Ent) (O M : List Addr) (env : PEnv) (σ : L2.St) (H : Hp) (D : Ends), KT T X.K E → R T O M env σ H → (∀ f ∈ ms, f env = some (.ok false env)) → (∀ H', R T O M env σ H' → Pd.Fr M H H' → t D σ H') → t' D σ H
theorem pck_nil {X : Cx} {E : Wish} {st : List Stmt} {t : TS} (h : PSs X st t) : PCk X E st [] t := ⟨t, h, fun T O M env σ H D hK r _ k => k H r Pd.Fr.refl⟩
theorem pck_cons {X : Cx} {E : Wish} {c : Expr} {b rest : List Stmt} {pos : Pos} {f : Mo Bool} {ms : List (Mo Bool)} {t : TS} (h : PDT X E c f) (r : PCk X E rest ms t) : PCk X E (.If c b [] pos :: rest) (f :: ms) t := by
  obtain ⟨u, u1, u2⟩ := r
  obtain ⟨v, v1, v2⟩ := pss_check (b := b) (pos := pos) h u1
  refine ⟨v, v1, fun T O M env σ H D hK r e k => v2 T O M env σ H D hK r (e f (.head _)) fun H' r' f' => u2 T O M env σ H' D hK r' (fun g hg => e g (.tail _ hg)) fun H2 r2 f2 => k H2 r2 (f'.trans f2)⟩
/-- self.f = x, self in slot 0 -/
theorem stf {X : Cx} (i : Nat) {x y f : Str} {p1 p2 p3 pos : Pos} (h0 : X.N[0]? = some x) (hi : X.N[i]? = some y) (hs : swapsWith (.Name y p3) (some (.Attribute (.Name x p1) f p2)) pos.line X.env = pure false := by rfl) (v0 : Vis X.env.scope x := by exact .inl rfl) (vi : Vis X.env.scope y := by exact .inl rfl)
    (d0 : (x == ("__debug__" : Str)) = false := by decide) (c0 : (x == ("__classdict__" : Str)) = false := by decide) (d1 : (y == ("__debug__" : Str)) = false := by decide) (c1 : (y == ("__classdict__" : Str)) = false := by decide) :
    PS X (.Assign [.Attribute (.Name x p1) f p2] (.Name y p3) pos) (sFld X.K (tVar 0) (tVar i) f) := ps_fld (pe_var h0 v0 d0 c0) (pe_var hi vi d1 c1) hs
def ckM (A : Ads) : List (Mo Bool) := [
  (orM (notM (boolM (Pd.bindM (consM (varM 1) (consM (retM (.da (.int 1))) (consM (retM (.da (.int 6))) (retM [])))) (callM (F_are_numbers A))))) (notM (boolM (chainM leD leD (retM (.da (.int 2))) (bltM lenD (consM (varM 1) (retM []))) (retM (.da (.int 4))))))),
  (orM (notM (boolM (Pd.bindM (consM (varM 2) (consM (retM (.da (.int 1))) (consM (retM (.da (.int 3))) (retM [])))) (callM (F_are_numbers A))))) (notM (boolM (chainM leD leD (retM (.da (.int 1))) (bltM lenD (consM (varM 2) (retM []))) (retM (.da (.int 4))))))),
  (boolM (op2M isD (varM 3) (retM (.da .none)))),
  (orM (notM (boolM (Pd.bindM (consM (varM 3) (consM (retM (.da (.int 0))) (consM (retM (.da (.int 3))) (retM [])))) (callM (F_are_numbers A))))) (boolM (op2M neD (bltM lenD (consM (varM 3) (retM []))) (bltM lenD (consM (varM 1) (retM [])))))),
  (notM (boolM (Pd.bindM (consM (varM 4) (consM (retM (.da (.int 1))) (consM (retM (.da (.int 3))) (retM [])))) (callM (F_is_number A))))),
  (notM (boolM (Pd.bindM (consM (varM 5) (consM (retM (.da (.int 1))) (consM (retM (.da (.int 2))) (retM [])))) (callM (F_is_number A))))),
  (notM (boolM (isiM "bool" (varM 6))))]
theorem ck_init (T : Facts P w K mg base tbs A) (f : Addr) (cdv : Value) (Ar : Around) (outer : List Env) (s : Shared) (H : Hp) (E : XK) (hr : Room 3 (Ar.deeper (envOfC "Cluster.__init__" (defScope s_init) s.heap.objs.size f cdv))) :
    ∃ t, PCk (cxOf (L2.CX P w) P w K mg base initN "Cluster.__init__" (defScope s_init) f cdv Ar outer s H E) ⟨E, tbs⟩ (defBody s_init) (ckM A) t ∧ t = tSeq (sFld K (tVar 0) (tVar 1) "_rooms") (tSeq (sFld K (tVar 0) (tVar 2) "_sizes") (tSeq (sFld K (tVar 0) (tVar 3) "_zones") (tSeq (sFld K (tVar 0) (tVar 4) "_far") (tSeq (sFld K (tVar 0) (tVar 5) "_alive") (sFld K (tVar 0) (tVar 6) "_apart"))))) := by
  have nd := sc_init.nd
  exact ⟨_, pck_cons (PDW.pdt (pdw_or (pdt_not (pdt_val (pd_call (B_are_numbers T) hr (by first | decide | omega) (by rfl) passE (pda_cons (pd_var 1 (pv 1)) (pda_cons pd_int (pda_cons pd_int pda_nil)))))) (pdw_or1 (pdt_not (pdt_chain opd_le opd_le pd_int (pd_callB cd_len (by rfl) T.m_len bt_len (pda_cons (pd_var 1 (pv 1)) pda_nil)) pd_int)))))
      (pck_cons (PDW.pdt (pdw_or (pdt_not (pdt_val (pd_call (B_are_numbers T) hr (by first | decide | omega) (by rfl) passE (pda_cons (pd_var 2 (pv 2)) (pda_cons pd_int (pda_cons pd_int pda_nil)))))) (pdw_or1 (pdt_not (pdt_chain opd_le opd_le pd_int (pd_callB cd_len (by rfl) T.m_len bt_len (pda_cons (pd_var 2 (pv 2)) pda_nil)) pd_int)))))
      (pck_cons (pdt_cmp opd_isN (pd_var 3 (pv 3)) pd_non)
      (pck_cons (PDW.pdt (pdw_or (pdt_not (pdt_val (pd_call (B_are_numbers T) hr (by first | decide | omega) (by rfl) passE (pda_cons (pd_var 3 (pv 3)) (pda_cons pd_int (pda_cons pd_int pda_nil)))))) (pdw_or1 (pdt_cmp (opd_ne hr.units) (pd_callB cd_len (by rfl) T.m_len bt_len (pda_cons (pd_var 3 (pv 3)) pda_nil)) (pd_callB cd_len (by rfl) T.m_len bt_len (pda_cons (pd_var 1 (pv 1)) pda_nil))))))
      (pck_cons (pdt_not (pdt_val (pd_call (B_is_number T) hr (by first | decide | omega) (by rfl) passE (pda_cons (pd_var 4 (pv 4)) (pda_cons pd_int (pda_cons pd_int pda_nil))))))
      (pck_cons (pdt_not (pdt_val (pd_call (B_is_number T) hr (by first | decide | omega) (by rfl) passE (pda_cons (pd_var 5 (pv 5)) (pda_cons pd_int (pda_cons pd_int pda_nil))))))
      (pck_cons (pdt_not (pdt_val (pd_isi (T := "bool") (by rfl) T.m_isinstance (pd_var 6 (pv 6)) (pe_bltn (by rfl) T.m_bool bt_bool rfl))))
      (pck_nil (pss_cons (stf 1 rfl rfl) (pss_cons (stf 2 rfl rfl) (pss_cons (stf 3 rfl rfl) (pss_cons (stf 4 rfl rfl) (pss_cons (stf 5 rfl rfl) (pss_one (stf 6 rfl rfl)))))))))))))), rfl⟩
theorem F_Cluster_some {svs : List SV} {fs : List (Str × PyData)} (h : F_Cluster svs = some fs) : ∃ rs ss zs far alive apart, svs = [.da (.tuple rs), .da (.tuple ss), .da (.tuple zs), .da far, .da alive, .da (.bool apart)] ∧
    fs = [(("_rooms" : Str), .tuple rs), ("_sizes", .tuple ss), ("_zones", .tuple zs), ("_far", far), ("_alive", alive), ("_apart", .bool apart)] ∧
    rs.all (numOk 1 6) = true ∧ (2 ≤ rs.length ∧ rs.length ≤ 4) ∧ ss.all (numOk 1 3) = true ∧ (1 ≤ ss.length ∧ ss.length ≤ 4) ∧ zs.all (numOk 0 3) = true ∧ zs.length = rs.length ∧ numOk 1 3 far = true ∧ numOk 1 2 alive = true := by
  unfold F_Cluster at h
  split at h
  · rename_i rs ss zs far alive apart
    split at h
    · rename_i hc
      cases h
      simp only [Bool.and_eq_true, decide_eq_true_eq] at hc
      exact ⟨rs, ss, zs, far, alive, apart, rfl, rfl, hc.1.1.1.1.1.1.1, hc.1.1.1.1.1.1.2, hc.1.1.1.1.1.2, hc.1.1.1.1.2, hc.1.1.1.2, hc.1.1.2, hc.1.2, hc.2⟩
    · cases h
  · cases h
theorem ck_false (A : Ads) (rs ss zs : List PyData) (far alive : PyData) (apart : Bool) (h1 : rs.all (numOk 1 6) = true) (h2 : 2 ≤ rs.length ∧ rs.length ≤ 4) (h3 : ss.all (numOk 1 3) = true) (h4 : 1 ≤ ss.length ∧ ss.length ≤ 4) (h5 : zs.all (numOk 0 3) = true) (h6 : zs.length = rs.length) (h7 : numOk 1 3 far = true) (h8 : numOk 1 2 alive = true) :
    ∀ f ∈ ckM A, f [none, some (.da (.tuple rs)), some (.da (.tuple ss)), some (.da (.tuple zs)), some (.da far), some (.da alive), some (.da (.bool apart))] = some (.ok false [none, some (.da (.tuple rs)), some (.da (.tuple ss)), some (.da (.tuple zs)), some (.da far), some (.da alive), some (.da (.bool apart))]) := by
  have l1 : rs.length ≤ LIM := by unfold LIM; omega
  have l2 : ss.length ≤ LIM := by unfold LIM; omega
  have l3 : zs.length ≤ LIM := by unfold LIM; omega
  have i1 : (2 : Int) ≤ rs.length := by omega
  have i2 : (rs.length : Int) ≤ 4 := by omega
  have i3 : (1 : Int) ≤ ss.length := by omega
  have i4 : (ss.length : Int) ≤ 4 := by omega
  intro f hf
  unfold ckM at hf
  simp only [List.mem_cons, List.not_mem_nil, or_false] at hf
  rcases hf with rfl | rfl | rfl | rfl | rfl | rfl | rfl
  · simp [Pd.runN, Pd.runF, Pd.seqS, Pd.ifS, Pd.retS, Pd.withE, Pd.andV, Pd.orV, Pd.boolM, Pd.notM, Pd.andM, Pd.orM, Pd.ifM, Pd.isiM, Pd.bindM, Pd.varM, Pd.liftO, Pd.isiD, Pd.tyOfD, Pd.asB, Pd.notV, Pd.chainM, Pd.op2M, Pd.leD, Pd.ltD, Pd.gtD, Pd.geD, Pd.eqD, Pd.neD, Pd.intD, Pd.retM, Pd.outOf, Pd.ownAt, Pd.bltM, Pd.vals, Pd.lenD, Pd.allD, Pd.consM, Pd.callM, Pd.ownSlots, Pd.svsOf, Pd.svOf, Pd.setOwn, Pd.nxS, Pd.setM, Pd.isOwn, Pd.isOD, Pd.isDic, Pd.wipeE, Pd.mergeE, v_are_numbers A rs 1 6 l1, h1, i1, i2]
  · simp [Pd.runN, Pd.runF, Pd.seqS, Pd.ifS, Pd.retS, Pd.withE, Pd.andV, Pd.orV, Pd.boolM, Pd.notM, Pd.andM, Pd.orM, Pd.ifM, Pd.isiM, Pd.bindM, Pd.varM, Pd.liftO, Pd.isiD, Pd.tyOfD, Pd.asB, Pd.notV, Pd.chainM, Pd.op2M, Pd.leD, Pd.ltD, Pd.gtD, Pd.geD, Pd.eqD, Pd.neD, Pd.intD, Pd.retM, Pd.outOf, Pd.ownAt, Pd.bltM, Pd.vals, Pd.lenD, Pd.allD, Pd.consM, Pd.callM, Pd.ownSlots, Pd.svsOf, Pd.svOf, Pd.setOwn, Pd.nxS, Pd.setM, Pd.isOwn, Pd.isOD, Pd.isDic, Pd.wipeE, Pd.mergeE, v_are_numbers A ss 1 3 l2, h3, i3, i4]
  · simp [Pd.runN, Pd.runF, Pd.seqS, Pd.ifS, Pd.retS, Pd.withE, Pd.andV, Pd.orV, Pd.boolM, Pd.notM, Pd.andM, Pd.orM, Pd.ifM, Pd.isiM, Pd.bindM, Pd.varM, Pd.liftO, Pd.isiD, Pd.tyOfD, Pd.asB, Pd.notV, Pd.chainM, Pd.op2M, Pd.leD, Pd.ltD, Pd.gtD, Pd.geD, Pd.eqD, Pd.neD, Pd.intD, Pd.retM, Pd.outOf, Pd.ownAt, Pd.bltM, Pd.vals, Pd.lenD, Pd.allD, Pd.consM, Pd.callM, Pd.ownSlots, Pd.svsOf, Pd.svOf, Pd.setOwn, Pd.nxS, Pd.setM, Pd.isOwn, Pd.isOD, Pd.isDic, Pd.wipeE, Pd.mergeE, isD, isNone]
  · simp [Pd.runN, Pd.runF, Pd.seqS, Pd.ifS, Pd.retS, Pd.withE, Pd.andV, Pd.orV, Pd.boolM, Pd.notM, Pd.andM, Pd.orM, Pd.ifM, Pd.isiM, Pd.bindM, Pd.varM, Pd.liftO, Pd.isiD, Pd.tyOfD, Pd.asB, Pd.notV, Pd.chainM, Pd.op2M, Pd.leD, Pd.ltD, Pd.gtD, Pd.geD, Pd.eqD, Pd.neD, Pd.intD, Pd.retM, Pd.outOf, Pd.ownAt, Pd.bltM, Pd.vals, Pd.lenD, Pd.allD, Pd.consM, Pd.callM, Pd.ownSlots, Pd.svsOf, Pd.svOf, Pd.setOwn, Pd.nxS, Pd.setM, Pd.isOwn, Pd.isOD, Pd.isDic, Pd.wipeE, Pd.mergeE, v_are_numbers A zs 0 3 l3, h5, h6, show SeqAt.shaped (.int (rs.length : Int)) = true by rfl, PyData.eqv]
  · simp [Pd.runN, Pd.runF, Pd.seqS, Pd.ifS, Pd.retS, Pd.withE, Pd.andV, Pd.orV, Pd.boolM, Pd.notM, Pd.andM, Pd.orM, Pd.ifM, Pd.isiM, Pd.bindM, Pd.varM, Pd.liftO, Pd.isiD, Pd.tyOfD, Pd.asB, Pd.notV, Pd.chainM, Pd.op2M, Pd.leD, Pd.ltD, Pd.gtD, Pd.geD, Pd.eqD, Pd.neD, Pd.intD, Pd.retM, Pd.outOf, Pd.ownAt, Pd.bltM, Pd.vals, Pd.lenD, Pd.allD, Pd.consM, Pd.callM, Pd.ownSlots, Pd.svsOf, Pd.svOf, Pd.setOwn, Pd.nxS, Pd.setM, Pd.isOwn, Pd.isOD, Pd.isDic, Pd.wipeE, Pd.mergeE, v_is_number, h7]
  · simp [Pd.runN, Pd.runF, Pd.seqS, Pd.ifS, Pd.retS, Pd.withE, Pd.andV, Pd.orV, Pd.boolM, Pd.notM, Pd.andM, Pd.orM, Pd.ifM, Pd.isiM, Pd.bindM, Pd.varM, Pd.liftO, Pd.isiD, Pd.tyOfD, Pd.asB, Pd.notV, Pd.chainM, Pd.op2M, Pd.leD, Pd.ltD, Pd.gtD, Pd.geD, Pd.eqD, Pd.neD, Pd.intD, Pd.retM, Pd.outOf, Pd.ownAt, Pd.bltM, Pd.vals, Pd.lenD, Pd.allD, Pd.consM, Pd.callM, Pd.ownSlots, Pd.svsOf, Pd.svOf, Pd.setOwn, Pd.nxS, Pd.setM, Pd.isOwn, Pd.isOD, Pd.isDic, Pd.wipeE, Pd.mergeE, v_is_number, h8]
  · simp [Pd.runN, Pd.runF, Pd.seqS, Pd.ifS, Pd.retS, Pd.withE, Pd.andV, Pd.orV, Pd.boolM, Pd.notM, Pd.andM, Pd.orM, Pd.ifM, Pd.isiM, Pd.bindM, Pd.varM, Pd.liftO, Pd.isiD, Pd.tyOfD, Pd.asB, Pd.notV, Pd.chainM, Pd.op2M, Pd.leD, Pd.ltD, Pd.gtD, Pd.geD, Pd.eqD, Pd.neD, Pd.intD, Pd.retM, Pd.outOf, Pd.ownAt, Pd.bltM, Pd.vals, Pd.lenD, Pd.allD, Pd.consM, Pd.callM, Pd.ownSlots, Pd.svsOf, Pd.svOf, Pd.setOwn, Pd.nxS, Pd.setM, Pd.isOwn, Pd.isOD, Pd.isDic, Pd.wipeE, Pd.mergeE, show L2.kitB "bool" "bool" = some true by rfl]
theorem upd_upd {H : Hp} {x : Addr} {o u : HO} : upd (upd H x o) x u = upd H x u := by
  funext b
  by_cases h : b = x
  · rw [h, upd_same, upd_same]
  · rw [upd_ne h, upd_ne h, upd_ne h]
theorem putF_le (f : Str) (v : V) : ∀ (fs : List (Str × V)) (n : Nat), fs.length ≤ n → (putF f v fs).length ≤ n + 1
  | [], n, _ => Nat.le_add_left 1 n
  | (g, x) :: r, n, h => by
    unfold putF
    split
    · exact Nat.le_succ_of_le h
    · cases n with
      | zero => simp at h
      | succ n => exact Nat.succ_le_succ (putF_le f v r n (Nat.le_of_succ_le_succ h))
theorem B_Cluster (T : Facts P w K mg base tbs A) : MkF P w K mg base tbs A.C F_Cluster 4 2 ["zones", "far", "alive", "apart"] := by
  obtain ⟨fI, fd, M, FD⟩ := T.n_Cluster.ex
  refine ⟨fI, fd, initN, M, FD.ok (k := 3) sc_init (fun vs H Q E h => ?_) (fun cdv Ar outer s H vs Q E hr h => ?_), kb_init FD⟩
  · obtain ⟨O, x, dx, vr, svs, fs, rfl, _, _, _, _, _, _, hp, hF, _⟩ := h
    obtain ⟨rs, ss, zs, far, alive, apart, rfl, _⟩ := F_Cluster_some hF
    show vr.length + 1 = 7
    rw [Paired.length hp]
    rfl
  · obtain ⟨O, x, dx, vr, svs, fs, rfl, hlive, hxO, hxt, hx, ht, htO, hp, hF, fin⟩ := h
    obtain ⟨rs, ss, zs, far, alive, apart, rfl, rfl, c1, c2, c3, c4, c5, c6, c7, c8⟩ := F_Cluster_some hF
    obtain ⟨t, ⟨t', q1, q2⟩, rfl⟩ := ck_init T fI cdv Ar outer s H E hr
    refine ⟨t', q1, ?_⟩
    cases hp with
    | @cons v1 _ _ _ p1 hp =>
    cases hp with
    | @cons v2 _ _ _ p2 hp =>
    cases hp with
    | @cons v3 _ _ _ p3 hp =>
    cases hp with
    | @cons v4 _ _ _ p4 hp =>
    cases hp with
    | @cons v5 _ _ _ p5 hp =>
    cases hp with
    | @cons v6 _ _ _ p6 hp =>
    cases hp
    have tO : ∀ b, b ∈ tbs.map (·.1) → b ∈ O := fun b hb => by
      obtain ⟨p, hp, rfl⟩ := List.mem_map.mp hb
      exact htO p hp
    have r0 : R ⟨K, H, O, [], tbs⟩ O (tbs.map (·.1)) [none, some (.da (.tuple rs)), some (.da (.tuple ss)), some (.da (.tuple zs)), some (.da far), some (.da alive), some (.da (.bool apart))] (start initN [.ref x, v1, v2, v3, v4, v5, v6]) H := by
      refine ⟨rfl, fun i sv h => ?_, fun i j a ds es h => ?_, fun i j a ds es h => ?_, hlive, tO, fun _ h => h, fun l h => .inr (.inr h), fun b o h _ _ => h, fun p hp => absurd hp (by simp), ht, fun p hp => List.mem_map_of_mem hp⟩
      · match i, h with
        | 0, h => cases h
        | 1, h => cases h; exact ⟨v1, rfl, p1⟩
        | 2, h => cases h; exact ⟨v2, rfl, p2⟩
        | 3, h => cases h; exact ⟨v3, rfl, p3⟩
        | 4, h => cases h; exact ⟨v4, rfl, p4⟩
        | 5, h => cases h; exact ⟨v5, rfl, p5⟩
        | 6, h => cases h; exact ⟨v6, rfl, p6⟩
        | i + 7, h => simp at h
      · match i, h with
        | 0, h => cases h
        | 1, h => cases h
        | 2, h => cases h
        | 3, h => cases h
        | 4, h => cases h
        | 5, h => cases h
        | 6, h => cases h
        | i + 7, h => simp at h
      · match i, h with
        | 0, h => cases h
        | 1, h => cases h
        | 2, h => cases h
        | 3, h => cases h
        | 4, h => cases h
        | 5, h => cases h
        | 6, h => cases h
        | i + 7, h => simp at h
    refine q2 ⟨K, H, O, [], tbs⟩ O (tbs.map (·.1)) _ _ H _ ⟨rfl, rfl⟩ r0 (ck_false A rs ss zs far alive apart c1 c2 c3 c4 c5 c6 c7 c8) fun H' r' f' => ?_
    have hx' : H' x = some (.ins A.C dx []) := f' x _ hx hxt
    have no := T.n_Cluster.no
    refine ⟨v1, rfl, .ref x, rfl, x, A.C, dx, [], rfl, hx', T.n_Cluster.cl, no _ (by simp), by simp, ?_⟩
    refine ⟨v2, rfl, .ref x, rfl, x, A.C, dx, _, rfl, upd_same, T.n_Cluster.cl, no _ (by simp), (by refine Nat.lt_of_le_of_lt (m := 10) ?_ (by decide); repeat (first | exact Nat.zero_le _ | refine putF_le _ _ _ _ ?_)), ?_⟩
    refine ⟨v3, rfl, .ref x, rfl, x, A.C, dx, _, rfl, upd_same, T.n_Cluster.cl, no _ (by simp), (by refine Nat.lt_of_le_of_lt (m := 10) ?_ (by decide); repeat (first | exact Nat.zero_le _ | refine putF_le _ _ _ _ ?_)), ?_⟩
    refine ⟨v4, rfl, .ref x, rfl, x, A.C, dx, _, rfl, upd_same, T.n_Cluster.cl, no _ (by simp), (by refine Nat.lt_of_le_of_lt (m := 10) ?_ (by decide); repeat (first | exact Nat.zero_le _ | refine putF_le _ _ _ _ ?_)), ?_⟩
    refine ⟨v5, rfl, .ref x, rfl, x, A.C, dx, _, rfl, upd_same, T.n_Cluster.cl, no _ (by simp), (by refine Nat.lt_of_le_of_lt (m := 10) ?_ (by decide); repeat (first | exact Nat.zero_le _ | refine putF_le _ _ _ _ ?_)), ?_⟩
    refine ⟨v6, rfl, .ref x, rfl, x, A.C, dx, _, rfl, upd_same, T.n_Cluster.cl, no _ (by simp), (by refine Nat.lt_of_le_of_lt (m := 10) ?_ (by decide); repeat (first | exact Nat.zero_le _ | refine putF_le _ _ _ _ ?_)), ?_⟩
    simp only [upd_upd]
    have sm : ∀ {gs} b o, H' b = some o → b ≠ x → upd H' x (.ins A.C dx gs) b = some o := fun b o e n => by rw [upd_ne n]; exact e
    refine fin _ [("_rooms", v1), ("_sizes", v2), ("_zones", v3), ("_far", v4), ("_alive", v5), ("_apart", v6)] (fun b o e n nt => sm b o (f' b o e nt) n) (tabs_but2 (l := x) r'.tabs ⟨fun ps z => ?_, fun φ z => ?_⟩ fun b o e n => sm b o e n) ?_ ?_
    · rw [hx'] at z; cases z
    · rw [hx'] at z; cases z
    · exact upd_same
    · have ec : ∀ {gs}, Same (cut O H) (cut O (upd H' x (.ins A.C dx gs))) := fun {gs} => (f'.cut tO).trans (cut_same (fun b o e n => sm b o e fun z => n (by rw [z]; exact hxO)) fun _ _ _ z => z)
      exact .cons ⟨rfl, Dp.mono ec _ _ p1⟩ (.cons ⟨rfl, Dp.mono ec _ _ p2⟩ (.cons ⟨rfl, Dp.mono ec _ _ p3⟩ (.cons ⟨rfl, Dp.mono ec _ _ p4⟩ (.cons ⟨rfl, Dp.mono ec _ _ p5⟩ (.cons ⟨rfl, Dp.mono ec _ _ p6⟩ .nil)))))
end
end K01
end
section
set_option Elab.async false
set_option linter.all false
set_option maxRecDepth 100000
set_option maxHeartbeats 4000000
namespace K01
open PySem PySem.Spec PyProof.Rows L2 Pd

section
variable {P : Program} {w : World} {K : PySem.W.Frag} {mg : Str → Option Value} {base : Heap} {A : Ads} {tbs : List (Addr × Str)}
theorem sc_is_ascending : FnScope ["value", "count", "low", "item"] ["value", "count"] (defScope s_is_ascending) := ⟨rfl, rfl, rfl, by decide +kernel, rfl, by decide +kernel, by decide +kernel⟩
theorem B_is_ascending (T : Facts P w K mg base tbs A) : FnB P w K mg base tbs "is_ascending" 3 2 (F_is_ascending A) := by
  obtain ⟨f, fd, h1, h2, h3⟩ := T.f_is_ascending.ex
  have nd := (sc_is_ascending).nd
  exact fnb_of (k := 2) (g := g_is_ascending A) h1 sc_is_ascending h2 h3 (by decide) fun cdv Ar outer s H E hr =>
    (pds_cons (pds_if (pdt_not (pdt_val (pd_isi (T := "tuple") (by rfl) T.m_isinstance (pd_var 0 (pv 0)) (pe_bltn (by rfl) T.m_tuple bt_tuple rfl)))) (pds_one (pds_ret pd_bl)) pds_nil) (pds_cons (pds_set 2 pd_int nd) (pds_cons (pds_for (passes_of rfl) rfl (pdi_seq (pd_var 0 (pv 0))) (pdg_name 3 (pg_name nd rfl (by first | exact .inl rfl | exact .inr rfl))) (pds_cons (pds_if (pdt_not (pdt_val (pd_call (B_is_number T) hr (by first | decide | omega) (by rfl) passE (pda_cons (pd_var 3 (pv 3)) (pda_cons (pd_var 2 (pv 2)) (pda_cons (pd_bin opd_sub (pd_var 1 (pv 1)) pd_int) pda_nil)))))) (pds_one (pds_ret pd_bl)) pds_nil) (pds_one (pds_set 2 (pd_bin opd_add (pd_var 3 (pv 3)) pd_int) nd)))) (pds_one (pds_ret pd_bl)))))
theorem sc_check_cluster : FnScope ["value"] ["value"] (defScope s_check_cluster) := ⟨rfl, rfl, rfl, by decide +kernel, rfl, by decide +kernel, by decide +kernel⟩
theorem B_check_cluster (T : Facts P w K mg base tbs A) : FnB P w K mg base tbs "check_cluster" 2 1 (F_check_cluster A) := by
  obtain ⟨f, fd, h1, h2, h3⟩ := T.f_check_cluster.ex
  have nd := (sc_check_cluster).nd
  exact fnb_of (k := 1) (g := g_check_cluster A) h1 sc_check_cluster h2 h3 (by decide) fun cdv Ar outer s H E hr =>
    (pds_one (pds_if (pdt_not (pdt_val (pd_isiC (by rfl) T.m_isinstance (pd_var 0 (pv 0)) (by rfl) T.k_Cluster T.z_Cluster))) (pds_one pds_never) pds_nil))
theorem sc_may_lie : FnScope ["cluster", "machines", "machine"] ["cluster", "machines"] (defScope s_may_lie) := ⟨rfl, rfl, rfl, by decide +kernel, rfl, by decide +kernel, by decide +kernel⟩
theorem B_may_lie (T : Facts P w K mg base tbs A) : FnB P w K mg base tbs "may_lie" 3 2 (F_may_lie A) := by
  obtain ⟨f, fd, h1, h2, h3⟩ := T.f_may_lie.ex
  have nd := (sc_may_lie).nd
  exact fnb_of (k := 2) (g := g_may_lie A) h1 sc_may_lie h2 h3 (by decide) fun cdv Ar outer s H E hr =>
    (pds_cons (pds_if (pdt_cmp opd_lt (pd_callB cd_len (by rfl) T.m_len bt_len (pda_cons (pd_var 1 (pv 1)) pda_nil)) (pd_prop T.p_alive hr (by first | decide | omega) (pd_var 0 (pv 0)))) (pds_one (pds_ret pd_bl)) pds_nil) (pds_one (pds_ret (pd_or (pd_not (pd_prop T.p_apart hr (by first | decide | omega) (pd_var 0 (pv 0)))) (pd_one (pd_cmp (opd_eq hr.units) (pd_setlen rfl nd (by rfl) T.m_len (pdi_seq (pd_var 1 (pv 1))) (blkOk_by (own := [("machine", 2)]) (by kernel_rfl)) (fun _ _ _ _ _ => (pdg_name 2 (pg_name nd rfl (by first | exact .inl rfl | exact .inr rfl)))) (fun _ _ _ _ _ => (pd_ix ixd_seq (pd_prop T.p_zones hr (by first | decide | omega) (pd_var 0 (pv 0))) (pd_var 2 (pv 2))))) (pd_callB cd_len (by rfl) T.m_len bt_len (pda_cons (pd_var 1 (pv 1)) pda_nil))))))))
theorem sc_held : FnScope ["cluster", "placing", "sums", "size", "machines", "machine"] ["cluster", "placing"] (defScope s_held) := ⟨rfl, rfl, rfl, by decide +kernel, rfl, by decide +kernel, by decide +kernel⟩
theorem B_held (T : Facts P w K mg base tbs A) : FnB P w K mg base tbs "held" 3 2 (F_held A) := by
  obtain ⟨f, fd, h1, h2, h3⟩ := T.f_held.ex
  have nd := (sc_held).nd
  exact fnb_of (k := 2) (g := g_held A) h1 sc_held h2 h3 (by decide) fun cdv Ar outer s H E hr =>
    (pds_cons (pds_own 2 (pdn_rep (pda_cons pd_int pda_nil) (pd_callB cd_len (by rfl) T.m_len bt_len (pda_cons (pd_prop T.p_rooms hr (by first | decide | omega) (pd_var 0 (pv 0))) pda_nil))) nd) (pds_cons (pds_for (passes_of rfl) rfl (pdi_zipT (by rfl) T.m_zip (pda_cons (pd_prop T.p_sizes hr (by first | decide | omega) (pd_var 0 (pv 0))) (pda_cons (pd_var 1 (pv 1)) pda_nil))) (pdg_tup rfl (pdgs_cons (pdg_name 3 (pg_name nd rfl (by first | exact .inl rfl | exact .inr rfl))) (pdgs_cons (pdg_name 4 (pg_name nd rfl (by first | exact .inl rfl | exact .inr rfl))) pdgs_nil)) fun t ht => pg_tup rfl ht) (pds_one (pds_for (passes_of rfl) rfl (pdi_seq (pd_var 4 (pv 4))) (pdg_name 5 (pg_name nd rfl (by first | exact .inl rfl | exact .inr rfl))) (pds_one (pds_aug 2 (pd_var 3 (pv 3)) (pd_var 5 (pv 5)) fun ti te hi he => ps_augS (pv 2) hi pget_list he ip_add set_list))))) (pdss_frz 2 (pds_one (pds_ret (pd_var 2 (pv 2)))))))
theorem sc_fits : FnScope ["cluster", "placing", "load", "room"] ["cluster", "placing"] (defScope s_fits) := ⟨rfl, rfl, rfl, by decide +kernel, rfl, by decide +kernel, by decide +kernel⟩
theorem B_fits (T : Facts P w K mg base tbs A) : FnB P w K mg base tbs "fits" 4 2 (F_fits A) := by
  obtain ⟨f, fd, h1, h2, h3⟩ := T.f_fits.ex
  have nd := (sc_fits).nd
  exact fnb_of (k := 3) (g := g_fits A) h1 sc_fits h2 h3 (by decide) fun cdv Ar outer s H E hr =>
    (pds_one (pds_ret (pd_callB (cd_all rfl) (by rfl) T.m_all bt_all (pda_cons (pd_lc rfl nd (pdi_zipM (by rfl) T.m_zip (pda_cons (pd_call (B_held T) hr (by first | decide | omega) (by rfl) passE (pda_cons (pd_var 0 (pv 0)) (pda_cons (pd_var 1 (pv 1)) pda_nil))) (pda_cons (pd_prop T.p_rooms hr (by first | decide | omega) (pd_var 0 (pv 0))) pda_nil))) (blkOk_by (own := [("load", 2), ("room", 3)]) (by kernel_rfl)) (fun _ _ _ _ _ => (pdg_tup rfl (pdgs_cons (pdg_name 2 (pg_name nd rfl (by first | exact .inl rfl | exact .inr rfl))) (pdgs_cons (pdg_name 3 (pg_name nd rfl (by first | exact .inl rfl | exact .inr rfl))) pdgs_nil)) fun t ht => pg_tup rfl ht)) (fun _ _ _ _ _ => pdts_nil) (fun _ _ _ _ _ => (pd_cmp opd_le (pd_var 2 (pv 2)) (pd_var 3 (pv 3))))) pda_nil))))
theorem sc_is_placing : FnScope ["cluster", "value", "machines"] ["cluster", "value"] (defScope s_is_placing) := ⟨rfl, rfl, rfl, by decide +kernel, rfl, by decide +kernel, by decide +kernel⟩
theorem B_is_placing (T : Facts P w K mg base tbs A) : FnB P w K mg base tbs "is_placing" 5 2 (F_is_placing A) := by
  obtain ⟨f, fd, h1, h2, h3⟩ := T.f_is_placing.ex
  have nd := (sc_is_placing).nd
  exact fnb_of (k := 4) (g := g_is_placing A) h1 sc_is_placing h2 h3 (by decide) fun cdv Ar outer s H E hr =>
    (pds_cons (pds_expr (pd_call (B_check_cluster T) hr (by first | decide | omega) (by rfl) passE (pda_cons (pd_var 0 (pv 0)) pda_nil))) (pds_cons (pds_if (PDW.pdt (pdw_or (pdt_not (pdt_val (pd_isi (T := "tuple") (by rfl) T.m_isinstance (pd_var 1 (pv 1)) (pe_bltn (by rfl) T.m_tuple bt_tuple rfl)))) (pdw_or1 (pdt_cmp (opd_ne hr.units) (pd_callB cd_len (by rfl) T.m_len bt_len (pda_cons (pd_var 1 (pv 1)) pda_nil)) (pd_callB cd_len (by rfl) T.m_len bt_len (pda_cons (pd_prop T.p_sizes hr (by first | decide | omega) (pd_var 0 (pv 0))) pda_nil)))))) (pds_one (pds_ret pd_bl)) pds_nil) (pds_cons (pds_if (pdt_not (pdt_val (pd_callB (cd_all rfl) (by rfl) T.m_all bt_all (pda_cons (pd_lc rfl nd (pdi_seq (pd_var 1 (pv 1))) (blkOk_by (own := [("machines", 2)]) (by kernel_rfl)) (fun _ _ _ _ _ => (pdg_name 2 (pg_name nd rfl (by first | exact .inl rfl | exact .inr rfl)))) (fun _ _ _ _ _ => pdts_nil) (fun _ _ _ _ _ => (pd_call (B_is_ascending T) hr (by first | decide | omega) (by rfl) passB (pda_cons (pd_var 2 (pv 2)) (pda_cons (pd_callB cd_len (by rfl) T.m_len bt_len (pda_cons (pd_prop T.p_rooms hr (by first | decide | omega) (pd_var 0 (pv 0))) pda_nil)) pda_nil))))) pda_nil)))) (pds_one (pds_ret pd_bl)) pds_nil) (pds_one (pds_ret (pd_and (pd_callB (cd_all rfl) (by rfl) T.m_all bt_all (pda_cons (pd_lc rfl nd (pdi_seq (pd_var 1 (pv 1))) (blkOk_by (own := [("machines", 2)]) (by kernel_rfl)) (fun _ _ _ _ _ => (pdg_name 2 (pg_name nd rfl (by first | exact .inl rfl | exact .inr rfl)))) (fun _ _ _ _ _ => pdts_nil) (fun _ _ _ _ _ => (pd_call (B_may_lie T) hr (by first | decide | omega) (by rfl) passB (pda_cons (pd_var 0 (pv 0)) (pda_cons (pd_var 2 (pv 2)) pda_nil))))) pda_nil)) (pd_one (pd_call (B_fits T) hr (by first | decide | omega) (by rfl) passE (pda_cons (pd_var 0 (pv 0)) (pda_cons (pd_var 1 (pv 1)) pda_nil))))))))))
theorem sc_subsets : FnScope ["count", "rows", "index", "row"] ["count"] (defScope s_subsets) := ⟨rfl, rfl, rfl, by decide +kernel, rfl, by decide +kernel, by decide +kernel⟩
theorem B_subsets (T : Facts P w K mg base tbs A) : FnB P w K mg base tbs "subsets" 2 1 (F_subsets A) := by
  obtain ⟨f, fd, h1, h2, h3⟩ := T.f_subsets.ex
  have nd := (sc_subsets).nd
  exact fnb_of (k := 1) (g := g_subsets A) h1 sc_subsets h2 h3 (by decide) fun cdv Ar outer s H E hr =>
    (pds_cons (pds_set 1 (pd_lst (pda_cons (pd_tup pda_nil) pda_nil)) nd) (pds_cons (pds_for (passes_of rfl) rfl (pdi_range1 (by rfl) T.m_range (pda_cons (pd_var 0 (pv 0)) pda_nil)) (pdg_name 2 (pg_name nd rfl (by first | exact .inl rfl | exact .inr rfl))) (pds_one (pds_set 1 (pd_bin opd_add (pd_var 1 (pv 1)) (pd_lc rfl nd (pdi_seq (pd_var 1 (pv 1))) (blkOk_by (own := [("row", 3)]) (by kernel_rfl)) (fun _ _ _ _ _ => (pdg_name 3 (pg_name nd rfl (by first | exact .inl rfl | exact .inr rfl)))) (fun _ _ _ _ _ => pdts_nil) (fun _ _ _ _ _ => (pd_bin opd_add (pd_var 3 (pv 3)) (pd_tup (pda_cons (pd_var 2 (pv 2)) pda_nil)))))) nd))) (pds_one (pds_ret (pd_callB (cd_sortedA hr.units) (by rfl) T.m_sorted bt_sorted (pda_cons (pd_var 1 (pv 1)) pda_nil))))))
theorem sc__choices : FnScope ["cluster", "row"] ["cluster"] (defScope s__choices) := ⟨rfl, rfl, rfl, by decide +kernel, rfl, by decide +kernel, by decide +kernel⟩
theorem B__choices (T : Facts P w K mg base tbs A) : FnB P w K mg base tbs "_choices" 4 1 (F__choices A) := by
  obtain ⟨f, fd, h1, h2, h3⟩ := T.f__choices.ex
  have nd := (sc__choices).nd
  exact fnb_of (k := 3) (g := g__choices A) h1 sc__choices h2 h3 (by decide) fun cdv Ar outer s H E hr =>
    (pds_one (pds_ret (pd_lc rfl nd (pdi_seq (pd_call (B_subsets T) hr (by first | decide | omega) (by rfl) passE (pda_cons (pd_callB cd_len (by rfl) T.m_len bt_len (pda_cons (pd_prop T.p_rooms hr (by first | decide | omega) (pd_var 0 (pv 0))) pda_nil)) pda_nil))) (blkOk_by (own := [("row", 1)]) (by kernel_rfl)) (fun _ _ _ _ _ => (pdg_name 1 (pg_name nd rfl (by first | exact .inl rfl | exact .inr rfl)))) (fun _ _ _ _ _ => (pdts_one (pdt_val (pd_call (B_may_lie T) hr (by first | decide | omega) (by rfl) passB (pda_cons (pd_var 0 (pv 0)) (pda_cons (pd_var 1 (pv 1)) pda_nil)))))) (fun _ _ _ _ _ => (pd_var 1 (pv 1))))))
theorem sc__collect : FnScope ["cluster", "choices", "start", "free", "found", "size", "machines", "rest", "machine", "room"] ["cluster", "choices", "start", "free", "found"] (defScope s__collect) := ⟨rfl, rfl, rfl, by decide +kernel, rfl, by decide +kernel, by decide +kernel⟩
theorem d__collect (T : Facts P w K mg base tbs A) {Fself : List SV → Option Res} (k : Nat) (Bself : FnB P w K mg base tbs "_collect" (2 + k) 5 Fself) (fa : Addr) (cdv : Value) (Ar : Around) (outer : List Env) (s : Shared) (H : Hp) (E : XK) (hr : Room (2 + k) (Ar.deeper (envOfC "_collect" (defScope s__collect) s.heap.objs.size fa cdv))) :
    PDSs (cxOf (L2.CX P w) P w K mg base ["cluster", "choices", "start", "free", "found", "size", "machines", "rest", "machine", "room"] "_collect" (defScope s__collect) fa cdv Ar outer s H E) 5 ⟨E, tbs⟩ (defBody s__collect) (g__collect A Fself) :=
  have nd := (sc__collect).nd
  (pds_cons (pds_if (pdt_cmp (opd_eq hr.units) (pd_callB cd_len (by rfl) T.m_len bt_len (pda_cons (pd_var 2 (pv 2)) pda_nil)) (pd_callB cd_len (by rfl) T.m_len bt_len (pda_cons (pd_prop T.p_sizes hr (by first | decide | omega) (pd_var 0 (pv 0))) pda_nil))) (pds_cons (pds_if (pdt_cmp (opd_eq hr.units) (pd_ownLen 4 fun r hr2 => pe_callB hr2 (by rfl) T.m_len bt_len (pa_cons (pv 4) pa_nil)) (pd_glob (by rfl) T.c_MOST_PLACINGS.choose_spec)) (pds_one pds_never) pds_nil) (pds_cons (pds_app 4 (pd_var 2 (pv 2)) fun te h => ps_expr (pe_bm PySem.F.plainAttrs_list PySem.F.slot_list_append PySem.F.type_list_append mt_append (pv 4) (pa_cons h pa_nil))) (pds_one pds_retN))) pds_nil) (pds_cons (pds_set 5 (pd_ix ixd_seq (pd_prop T.p_sizes hr (by first | decide | omega) (pd_var 0 (pv 0))) (pd_callB cd_len (by rfl) T.m_len bt_len (pda_cons (pd_var 2 (pv 2)) pda_nil))) nd) (pds_one (pds_for (passes_of rfl) rfl (pdi_seq (pd_var 1 (pv 1))) (pdg_name 6 (pg_name nd rfl (by first | exact .inl rfl | exact .inr rfl))) (pds_cons (pds_setLc 7 (is := [8, 9]) rfl nd rfl rfl (sw_true rfl rfl rfl (by kernel_rfl)) (pdi_enum (by rfl) T.m_enumerate (pda_cons (pd_var 3 (pv 3)) pda_nil)) (blkOk_by (own := [("machine", 8), ("room", 9)]) (by kernel_rfl)) (fun _ _ _ _ _ => (pdg_tup rfl (pdgs_cons (pdg_name 8 (pg_name nd rfl (by first | exact .inl rfl | exact .inr rfl))) (pdgs_cons (pdg_name 9 (pg_name nd rfl (by first | exact .inl rfl | exact .inr rfl))) pdgs_nil)) fun t ht => pg_tup rfl ht)) (fun _ _ _ _ _ => pdts_nil) (fun _ _ _ _ _ => (pd_if (pdt_cmp (opd_in (hu65 hr)) (pd_var 8 (pv 8)) (pd_var 6 (pv 6))) (pd_bin opd_sub (pd_var 9 (pv 9)) (pd_var 5 (pv 5))) (pd_var 9 (pv 9))))) (pds_one (pds_if (pdt_cmp opd_ge (pd_callB (cd_min rfl) (by rfl) T.m_min bt_min (pda_cons (pd_var 7 (pv 7)) pda_nil)) pd_int) (pds_one (pds_expr (pd_call Bself hr (by first | decide | omega) (by rfl) passE (pda_cons (pd_var 0 (pv 0)) (pda_cons (pd_var 1 (pv 1)) (pda_cons (pd_bin opd_add (pd_var 2 (pv 2)) (pd_tup (pda_cons (pd_var 6 (pv 6)) pda_nil))) (pda_cons (pd_var 7 (pv 7)) (pda_own 4 (pv 4) pda_nil)))))))) pds_nil)))))))
theorem B__collect (T : Facts P w K mg base tbs A) : ∀ n : Nat, FnB P w K mg base tbs "_collect" (2 + n) 5 (F__collect A n)
  | 0 => by
    obtain ⟨f, fd, h1, h2, h3⟩ := T.f__collect.ex
    exact FnB.say (fnb_of (k := 1) (g := fun _ => none) h1 sc__collect h2 h3 (by decide) fun cdv Ar outer s H E hr => pdss_never) fun svs r z => by cases z
  | n + 1 => by
    obtain ⟨f, fd, h1, h2, h3⟩ := T.f__collect.ex
    exact fnb_of (k := 2 + n) (g := g__collect A (F__collect A n)) h1 sc__collect h2 h3 (by decide) fun cdv Ar outer s H E hr => d__collect T n (B__collect T n) f cdv Ar outer s H E hr
theorem sc_placings : FnScope ["cluster", "found"] ["cluster"] (defScope s_placings) := ⟨rfl, rfl, rfl, by decide +kernel, rfl, by decide +kernel, by decide +kernel⟩
theorem B_placings (T : Facts P w K mg base tbs A) : FnB P w K mg base tbs "placings" 10 1 (F_placings A) := by
  obtain ⟨f, fd, h1, h2, h3⟩ := T.f_placings.ex
  have nd := (sc_placings).nd
  exact fnb_of (k := 9) (g := g_placings A) h1 sc_placings h2 h3 (by decide) fun cdv Ar outer s H E hr =>
    (pds_cons (pds_expr (pd_call (B_check_cluster T) hr (by first | decide | omega) (by rfl) passE (pda_cons (pd_var 0 (pv 0)) pda_nil))) (pds_cons (pds_own 1 (pdn_lst pda_nil) nd) (pds_cons (pds_expr (pd_call (B__collect T 6) hr (by first | decide | omega) (by rfl) passE (pda_cons (pd_var 0 (pv 0)) (pda_cons (pd_call (B__choices T) hr (by first | decide | omega) (by rfl) passE (pda_cons (pd_var 0 (pv 0)) pda_nil)) (pda_cons (pd_tup pda_nil) (pda_cons (pd_prop T.p_rooms hr (by first | decide | omega) (pd_var 0 (pv 0))) (pda_own 1 (pv 1) pda_nil))))))) (pdss_frz 1 (pds_one (pds_ret (pd_var 1 (pv 1))))))))
theorem sc_check_placing : FnScope ["cluster", "value"] ["cluster", "value"] (defScope s_check_placing) := ⟨rfl, rfl, rfl, by decide +kernel, rfl, by decide +kernel, by decide +kernel⟩
theorem B_check_placing (T : Facts P w K mg base tbs A) : FnB P w K mg base tbs "check_placing" 6 2 (F_check_placing A) := by
  obtain ⟨f, fd, h1, h2, h3⟩ := T.f_check_placing.ex
  have nd := (sc_check_placing).nd
  exact fnb_of (k := 5) (g := g_check_placing A) h1 sc_check_placing h2 h3 (by decide) fun cdv Ar outer s H E hr =>
    (pds_one (pds_if (pdt_not (pdt_val (pd_call (B_is_placing T) hr (by first | decide | omega) (by rfl) passE (pda_cons (pd_var 0 (pv 0)) (pda_cons (pd_var 1 (pv 1)) pda_nil))))) (pds_one pds_never) pds_nil))
theorem sc_loads : FnScope ["cluster", "placing"] ["cluster", "placing"] (defScope s_loads) := ⟨rfl, rfl, rfl, by decide +kernel, rfl, by decide +kernel, by decide +kernel⟩
theorem B_loads (T : Facts P w K mg base tbs A) : FnB P w K mg base tbs "loads" 7 2 (F_loads A) := by
  obtain ⟨f, fd, h1, h2, h3⟩ := T.f_loads.ex
  have nd := (sc_loads).nd
  exact fnb_of (k := 6) (g := g_loads A) h1 sc_loads h2 h3 (by decide) fun cdv Ar outer s H E hr =>
    (pds_cons (pds_expr (pd_call (B_check_placing T) hr (by first | decide | omega) (by rfl) passE (pda_cons (pd_var 0 (pv 0)) (pda_cons (pd_var 1 (pv 1)) pda_nil)))) (pds_one (pds_ret (pd_call (B_held T) hr (by first | decide | omega) (by rfl) passE (pda_cons (pd_var 0 (pv 0)) (pda_cons (pd_var 1 (pv 1)) pda_nil))))))
theorem sc__replaced : FnScope ["cluster", "placing", "shard", "machines"] ["cluster", "placing", "shard", "machines"] (defScope s__replaced) := ⟨rfl, rfl, rfl, by decide +kernel, rfl, by decide +kernel, by decide +kernel⟩
theorem B__replaced (T : Facts P w K mg base tbs A) : FnB P w K mg base tbs "_replaced" 4 4 (F__replaced A) := by
  obtain ⟨f, fd, h1, h2, h3⟩ := T.f__replaced.ex
  have nd := (sc__replaced).nd
  exact fnb_of (k := 3) (g := g__replaced A) h1 sc__replaced h2 h3 (by decide) fun cdv Ar outer s H E hr =>
    (pds_cons (pds_if (pdt_not (pdt_val (pd_call (B_may_lie T) hr (by first | decide | omega) (by rfl) passE (pda_cons (pd_var 0 (pv 0)) (pda_cons (pd_var 3 (pv 3)) pda_nil))))) (pds_one (pds_ret pd_non)) pds_nil) (pds_one (pds_ret (pd_bin opd_add (pd_bin opd_add (pd_slice (pd_var 1 (pv 1)) pdo_none (pdo_some (pd_var 2 (pv 2)))) (pd_tup (pda_cons (pd_var 3 (pv 3)) pda_nil))) (pd_slice (pd_var 1 (pv 1)) (pdo_some (pd_bin opd_add (pd_var 2 (pv 2)) pd_int)) pdo_none)))))
theorem sc__copied : FnScope ["cluster", "placing", "sums", "shard", "target", "machines"] ["cluster", "placing", "sums", "shard", "target"] (defScope s__copied) := ⟨rfl, rfl, rfl, by decide +kernel, rfl, by decide +kernel, by decide +kernel⟩
theorem B__copied (T : Facts P w K mg base tbs A) : FnB P w K mg base tbs "_copied" 5 5 (F__copied A) := by
  obtain ⟨f, fd, h1, h2, h3⟩ := T.f__copied.ex
  have nd := (sc__copied).nd
  exact fnb_of (k := 4) (g := g__copied A) h1 sc__copied h2 h3 (by decide) fun cdv Ar outer s H E hr =>
    (pds_cons (pds_set 5 (pd_ix ixd_seq (pd_var 1 (pv 1)) (pd_var 3 (pv 3))) nd) (pds_cons (pds_if (PDW.pdt (pdw_or (pdt_cmp (opd_in (hu65 hr)) (pd_var 4 (pv 4)) (pd_var 5 (pv 5))) (pdw_or1 (pdt_cmp opd_gt (pd_bin opd_add (pd_ix ixd_seq (pd_var 2 (pv 2)) (pd_var 4 (pv 4))) (pd_ix ixd_seq (pd_prop T.p_sizes hr (by first | decide | omega) (pd_var 0 (pv 0))) (pd_var 3 (pv 3)))) (pd_ix ixd_seq (pd_prop T.p_rooms hr (by first | decide | omega) (pd_var 0 (pv 0))) (pd_var 4 (pv 4))))))) (pds_one (pds_ret pd_non)) pds_nil) (pds_one (pds_ret (pd_call (B__replaced T) hr (by first | decide | omega) (by rfl) passE (pda_cons (pd_var 0 (pv 0)) (pda_cons (pd_var 1 (pv 1)) (pda_cons (pd_var 3 (pv 3)) (pda_cons (pd_callT cd_tuple (by rfl) T.m_tuple bt_tuple (pda_cons (pd_callB (cd_sortedA hr.units) (by rfl) T.m_sorted bt_sorted (pda_cons (pd_lst (pda_star (pd_var 5 (pv 5)) (pda_cons (pd_var 4 (pv 4)) pda_nil))) pda_nil)) pda_nil)) pda_nil)))))))))
theorem sc__dropped : FnScope ["cluster", "placing", "shard", "machine", "machines", "other"] ["cluster", "placing", "shard", "machine"] (defScope s__dropped) := ⟨rfl, rfl, rfl, by decide +kernel, rfl, by decide +kernel, by decide +kernel⟩
theorem B__dropped (T : Facts P w K mg base tbs A) : FnB P w K mg base tbs "_dropped" 5 4 (F__dropped A) := by
  obtain ⟨f, fd, h1, h2, h3⟩ := T.f__dropped.ex
  have nd := (sc__dropped).nd
  exact fnb_of (k := 4) (g := g__dropped A) h1 sc__dropped h2 h3 (by decide) fun cdv Ar outer s H E hr =>
    (pds_cons (pds_set 4 (pd_ix ixd_seq (pd_var 1 (pv 1)) (pd_var 2 (pv 2))) nd) (pds_cons (pds_if (pdt_cmp (opd_notIn (hu65 hr)) (pd_var 3 (pv 3)) (pd_var 4 (pv 4))) (pds_one (pds_ret pd_non)) pds_nil) (pds_one (pds_ret (pd_call (B__replaced T) hr (by first | decide | omega) (by rfl) passE (pda_cons (pd_var 0 (pv 0)) (pda_cons (pd_var 1 (pv 1)) (pda_cons (pd_var 2 (pv 2)) (pda_cons (pd_callT cd_tuple (by rfl) T.m_tuple bt_tuple (pda_cons (pd_lc rfl nd (pdi_seq (pd_var 4 (pv 4))) (blkOk_by (own := [("other", 5)]) (by kernel_rfl)) (fun _ _ _ _ _ => (pdg_name 5 (pg_name nd rfl (by first | exact .inl rfl | exact .inr rfl)))) (fun _ _ _ _ _ => (pdts_one (pdt_cmp (opd_ne hr.units) (pd_var 5 (pv 5)) (pd_var 3 (pv 3))))) (fun _ _ _ _ _ => (pd_var 5 (pv 5)))) pda_nil)) pda_nil)))))))))
theorem sc_moves : FnScope ["cluster", "placing", "sums", "found", "shard", "machines", "grown", "target", "source", "result", "shrunk", "machine"] ["cluster", "placing"] (defScope s_moves) := ⟨rfl, rfl, rfl, by decide +kernel, rfl, by decide +kernel, by decide +kernel⟩
theorem B_moves (T : Facts P w K mg base tbs A) : FnB P w K mg base tbs "moves" 6 2 (F_moves A) := by
  obtain ⟨f, fd, h1, h2, h3⟩ := T.f_moves.ex
  have nd := (sc_moves).nd
  exact fnb_of (k := 5) (g := g_moves A) h1 sc_moves h2 h3 (by decide) fun cdv Ar outer s H E hr =>
    (pds_cons (pds_set 2 (pd_call (B_held T) hr (by first | decide | omega) (by rfl) passE (pda_cons (pd_var 0 (pv 0)) (pda_cons (pd_var 1 (pv 1)) pda_nil))) nd) (pds_cons (pds_own 3 (pdn_lst pda_nil) nd) (pds_cons (pds_for (passes_of rfl) rfl (pdi_enum (by rfl) T.m_enumerate (pda_cons (pd_var 1 (pv 1)) pda_nil)) (pdg_tup rfl (pdgs_cons (pdg_name 4 (pg_name nd rfl (by first | exact .inl rfl | exact .inr rfl))) (pdgs_cons (pdg_name 5 (pg_name nd rfl (by first | exact .inl rfl | exact .inr rfl))) pdgs_nil)) fun t ht => pg_tup rfl ht) (pds_cons (pds_set 6 (pd_lc rfl nd (pdi_range1 (by rfl) T.m_range (pda_cons (pd_callB cd_len (by rfl) T.m_len bt_len (pda_cons (pd_prop T.p_rooms hr (by first | decide | omega) (pd_var 0 (pv 0))) pda_nil)) pda_nil)) (blkOk_by (own := [("target", 7)]) (by kernel_rfl)) (fun _ _ _ _ _ => (pdg_name 7 (pg_name nd rfl (by first | exact .inl rfl | exact .inr rfl)))) (fun _ _ _ _ _ => pdts_nil) (fun _ _ _ _ _ => (pd_tup (pda_cons (pd_var 7 (pv 7)) (pda_cons (pd_call (B__copied T) hr (by first | decide | omega) (by rfl) passB (pda_cons (pd_var 0 (pv 0)) (pda_cons (pd_var 1 (pv 1)) (pda_cons (pd_var 2 (pv 2)) (pda_cons (pd_var 4 (pv 4)) (pda_cons (pd_var 7 (pv 7)) pda_nil)))))) pda_nil))))) nd) (pds_one (pds_ext 3 nd (pd_lc2i (vs1 := [7, 9]) rfl nd (pdi_seq (pd_var 5 (pv 5))) (blkOk_by (own := [("source", 8), ("target", 7), ("result", 9)]) (by kernel_rfl)) (fun _ _ _ _ _ => (pdg_name 8 (pg_name nd rfl (by first | exact .inl rfl | exact .inr rfl)))) (fun _ _ _ _ _ => (pdi_seq (pd_var 6 (pv 6)))) (fun _ _ _ _ _ => (pdg_tup rfl (pdgs_cons (pdg_name 7 (pg_name nd rfl (by first | exact .inl rfl | exact .inr rfl))) (pdgs_cons (pdg_name 9 (pg_name nd rfl (by first | exact .inl rfl | exact .inr rfl))) pdgs_nil)) fun t ht => pg_tup rfl ht)) (fun _ _ _ _ _ => (pdt_cmp opd_notN (pd_var 9 (pv 9)) pd_non)) (fun _ _ _ _ _ => (pd_tup (pda_cons (pd_tup (pda_cons pd_str (pda_cons (pd_var 4 (pv 4)) (pda_cons (pd_var 8 (pv 8)) (pda_cons (pd_var 7 (pv 7)) pda_nil))))) (pda_cons (pd_var 9 (pv 9)) pda_nil))))))))) (pds_cons (pds_for (passes_of rfl) rfl (pdi_enum (by rfl) T.m_enumerate (pda_cons (pd_var 1 (pv 1)) pda_nil)) (pdg_tup rfl (pdgs_cons (pdg_name 4 (pg_name nd rfl (by first | exact .inl rfl | exact .inr rfl))) (pdgs_cons (pdg_name 5 (pg_name nd rfl (by first | exact .inl rfl | exact .inr rfl))) pdgs_nil)) fun t ht => pg_tup rfl ht) (pds_cons (pds_setLc 10 (is := [11]) rfl nd rfl rfl (sw_true rfl rfl rfl (by kernel_rfl)) (pdi_seq (pd_var 5 (pv 5))) (blkOk_by (own := [("machine", 11)]) (by kernel_rfl)) (fun _ _ _ _ _ => (pdg_name 11 (pg_name nd rfl (by first | exact .inl rfl | exact .inr rfl)))) (fun _ _ _ _ _ => pdts_nil) (fun _ _ _ _ _ => (pd_tup (pda_cons (pd_var 11 (pv 11)) (pda_cons (pd_call (B__dropped T) hr (by first | decide | omega) (by rfl) passB (pda_cons (pd_var 0 (pv 0)) (pda_cons (pd_var 1 (pv 1)) (pda_cons (pd_var 4 (pv 4)) (pda_cons (pd_var 11 (pv 11)) pda_nil))))) pda_nil))))) (pds_one (pds_ext 3 nd (pd_lc rfl nd (pdi_seq (pd_var 10 (pv 10))) (blkOk_by (own := [("machine", 11), ("result", 9)]) (by kernel_rfl)) (fun _ _ _ _ _ => (pdg_tup rfl (pdgs_cons (pdg_name 11 (pg_name nd rfl (by first | exact .inl rfl | exact .inr rfl))) (pdgs_cons (pdg_name 9 (pg_name nd rfl (by first | exact .inl rfl | exact .inr rfl))) pdgs_nil)) fun t ht => pg_tup rfl ht)) (fun _ _ _ _ _ => (pdts_one (pdt_cmp opd_notN (pd_var 9 (pv 9)) pd_non))) (fun _ _ _ _ _ => (pd_tup (pda_cons (pd_tup (pda_cons pd_str (pda_cons (pd_var 4 (pv 4)) (pda_cons (pd_var 11 (pv 11)) pda_nil)))) (pda_cons (pd_var 9 (pv 9)) pda_nil))))))))) (pdss_frz 3 (pds_one (pds_ret (pd_var 3 (pv 3)))))))))
theorem sc_steps : FnScope ["cluster", "placing", "step", "_"] ["cluster", "placing"] (defScope s_steps) := ⟨rfl, rfl, rfl, by decide +kernel, rfl, by decide +kernel, by decide +kernel⟩
theorem B_steps (T : Facts P w K mg base tbs A) : FnB P w K mg base tbs "steps" 7 2 (F_steps A) := by
  obtain ⟨f, fd, h1, h2, h3⟩ := T.f_steps.ex
  have nd := (sc_steps).nd
  exact fnb_of (k := 6) (g := g_steps A) h1 sc_steps h2 h3 (by decide) fun cdv Ar outer s H E hr =>
    (pds_cons (pds_expr (pd_call (B_check_placing T) hr (by first | decide | omega) (by rfl) passE (pda_cons (pd_var 0 (pv 0)) (pda_cons (pd_var 1 (pv 1)) pda_nil)))) (pds_one (pds_ret (pd_lc rfl nd (pdi_seq (pd_call (B_moves T) hr (by first | decide | omega) (by rfl) passE (pda_cons (pd_var 0 (pv 0)) (pda_cons (pd_var 1 (pv 1)) pda_nil)))) (blkOk_by (own := [("step", 2), ("_", 3)]) (by kernel_rfl)) (fun _ _ _ _ _ => (pdg_tup rfl (pdgs_cons (pdg_name 2 (pg_name nd rfl (by first | exact .inl rfl | exact .inr rfl))) (pdgs_cons (pdg_name 3 (pg_name nd rfl (by first | exact .inl rfl | exact .inr rfl))) pdgs_nil)) fun t ht => pg_tup rfl ht)) (fun _ _ _ _ _ => pdts_nil) (fun _ _ _ _ _ => (pd_var 2 (pv 2)))))))
theorem sc_has_form : FnScope ["cluster", "value", "machine"] ["cluster", "value"] (defScope s_has_form) := ⟨rfl, rfl, rfl, by decide +kernel, rfl, by decide +kernel, by decide +kernel⟩
theorem B_has_form (T : Facts P w K mg base tbs A) : FnB P w K mg base tbs "has_form" 3 2 (F_has_form A) := by
  obtain ⟨f, fd, h1, h2, h3⟩ := T.f_has_form.ex
  have nd := (sc_has_form).nd
  exact fnb_of (k := 2) (g := g_has_form A) h1 sc_has_form h2 h3 (by decide) fun cdv Ar outer s H E hr =>
    (pds_cons (pds_if (PDW.pdt (pdw_or (pdt_not (pdt_val (pd_isi (T := "tuple") (by rfl) T.m_isinstance (pd_var 1 (pv 1)) (pe_bltn (by rfl) T.m_tuple bt_tuple rfl)))) (pdw_or1 (pdt_not (pdt_chain opd_le opd_le pd_int (pd_callB cd_len (by rfl) T.m_len bt_len (pda_cons (pd_var 1 (pv 1)) pda_nil)) pd_int))))) (pds_one (pds_ret pd_bl)) pds_nil) (pds_cons (pds_if (PDW.pdt (pdw_or (pdt_not (pdt_val (pd_isi (T := "str") (by rfl) T.m_isinstance (pd_ix ixd_seq (pd_var 1 (pv 1)) pd_int) (pe_bltn (by rfl) T.m_str bt_str rfl)))) (pdw_or1 (pdt_cmp (opd_ne hr.units) (pd_ix ixd_seq (pd_var 1 (pv 1)) pd_int) (pd_if (pdt_cmp (opd_eq hr.units) (pd_callB cd_len (by rfl) T.m_len bt_len (pda_cons (pd_var 1 (pv 1)) pda_nil)) pd_int) pd_str pd_str))))) (pds_one (pds_ret pd_bl)) pds_nil) (pds_cons (pds_if (pdt_not (pdt_val (pd_call (B_is_number T) hr (by first | decide | omega) (by rfl) passE (pda_cons (pd_ix ixd_seq (pd_var 1 (pv 1)) pd_int) (pda_cons pd_int (pda_cons (pd_bin opd_sub (pd_callB cd_len (by rfl) T.m_len bt_len (pda_cons (pd_prop T.p_sizes hr (by first | decide | omega) (pd_var 0 (pv 0))) pda_nil)) pd_int) pda_nil)))))) (pds_one (pds_ret pd_bl)) pds_nil) (pds_one (pds_ret (pd_callB (cd_all rfl) (by rfl) T.m_all bt_all (pda_cons (pd_lc rfl nd (pdi_seq (pd_slice (pd_var 1 (pv 1)) (pdo_some pd_int) pdo_none)) (blkOk_by (own := [("machine", 2)]) (by kernel_rfl)) (fun _ _ _ _ _ => (pdg_name 2 (pg_name nd rfl (by first | exact .inl rfl | exact .inr rfl)))) (fun _ _ _ _ _ => pdts_nil) (fun _ _ _ _ _ => (pd_call (B_is_number T) hr (by first | decide | omega) (by rfl) passB (pda_cons (pd_var 2 (pv 2)) (pda_cons pd_int (pda_cons (pd_bin opd_sub (pd_callB cd_len (by rfl) T.m_len bt_len (pda_cons (pd_prop T.p_rooms hr (by first | decide | omega) (pd_var 0 (pv 0))) pda_nil)) pd_int) pda_nil)))))) pda_nil)))))))
theorem sc_placing_after : FnScope ["cluster", "placing", "step", "shard", "machine"] ["cluster", "placing", "step"] (defScope s_placing_after) := ⟨rfl, rfl, rfl, by decide +kernel, rfl, by decide +kernel, by decide +kernel⟩
theorem B_placing_after (T : Facts P w K mg base tbs A) : FnB P w K mg base tbs "placing_after" 6 3 (F_placing_after A) := by
  obtain ⟨f, fd, h1, h2, h3⟩ := T.f_placing_after.ex
  have nd := (sc_placing_after).nd
  exact fnb_of (k := 5) (g := g_placing_after A) h1 sc_placing_after h2 h3 (by decide) fun cdv Ar outer s H E hr =>
    (pds_cons (pds_if (pdt_not (pdt_val (pd_call (B_has_form T) hr (by first | decide | omega) (by rfl) passE (pda_cons (pd_var 0 (pv 0)) (pda_cons (pd_var 2 (pv 2)) pda_nil))))) (pds_one (pds_ret pd_non)) pds_nil) (pds_cons (pds_par (pda_cons (pd_ix ixd_seq (pd_var 2 (pv 2)) pd_int) (pda_cons (pd_ix ixd_seq (pd_var 2 (pv 2)) (pd_neg pd_int)) pda_nil)) fun t ht => ps_par rfl nd rfl rfl (by decide) rfl rfl ht (by rfl)) (pds_cons (pds_if (pdt_cmp (opd_eq hr.units) (pd_ix ixd_seq (pd_var 2 (pv 2)) pd_int) pd_str) (pds_one (pds_ret (pd_call (B__dropped T) hr (by first | decide | omega) (by rfl) passE (pda_cons (pd_var 0 (pv 0)) (pda_cons (pd_var 1 (pv 1)) (pda_cons (pd_var 3 (pv 3)) (pda_cons (pd_var 4 (pv 4)) pda_nil))))))) pds_nil) (pds_cons (pds_if (pdt_cmp (opd_notIn (hu65 hr)) (pd_ix ixd_seq (pd_var 2 (pv 2)) pd_int) (pd_ix ixd_seq (pd_var 1 (pv 1)) (pd_var 3 (pv 3)))) (pds_one (pds_ret pd_non)) pds_nil) (pds_one (pds_ret (pd_call (B__copied T) hr (by first | decide | omega) (by rfl) passE (pda_cons (pd_var 0 (pv 0)) (pda_cons (pd_var 1 (pv 1)) (pda_cons (pd_call (B_held T) hr (by first | decide | omega) (by rfl) passE (pda_cons (pd_var 0 (pv 0)) (pda_cons (pd_var 1 (pv 1)) pda_nil))) (pda_cons (pd_var 3 (pv 3)) (pda_cons (pd_var 4 (pv 4)) pda_nil))))))))))))
theorem sc_after : FnScope ["cluster", "placing", "step", "result"] ["cluster", "placing", "step"] (defScope s_after) := ⟨rfl, rfl, rfl, by decide +kernel, rfl, by decide +kernel, by decide +kernel⟩
theorem B_after (T : Facts P w K mg base tbs A) : FnB P w K mg base tbs "after" 7 3 (F_after A) := by
  obtain ⟨f, fd, h1, h2, h3⟩ := T.f_after.ex
  have nd := (sc_after).nd
  exact fnb_of (k := 6) (g := g_after A) h1 sc_after h2 h3 (by decide) fun cdv Ar outer s H E hr =>
    (pds_cons (pds_expr (pd_call (B_check_placing T) hr (by first | decide | omega) (by rfl) passE (pda_cons (pd_var 0 (pv 0)) (pda_cons (pd_var 1 (pv 1)) pda_nil)))) (pds_cons (pds_set 3 (pd_call (B_placing_after T) hr (by first | decide | omega) (by rfl) passE (pda_cons (pd_var 0 (pv 0)) (pda_cons (pd_var 1 (pv 1)) (pda_cons (pd_var 2 (pv 2)) pda_nil)))) nd) (pds_cons (pds_if (pdt_cmp opd_isN (pd_var 3 (pv 3)) pd_non) (pds_one (pds_raise0 tkE rfl (by rfl) T.k_BadStep T.x_BadStep)) pds_nil) (pds_one (pds_ret (pd_var 3 (pv 3)))))))
theorem sc_step_price : FnScope ["cluster", "step", "size"] ["cluster", "step"] (defScope s_step_price) := ⟨rfl, rfl, rfl, by decide +kernel, rfl, by decide +kernel, by decide +kernel⟩
theorem B_step_price (T : Facts P w K mg base tbs A) : FnB P w K mg base tbs "step_price" 3 2 (F_step_price A) := by
  obtain ⟨f, fd, h1, h2, h3⟩ := T.f_step_price.ex
  have nd := (sc_step_price).nd
  exact fnb_of (k := 2) (g := g_step_price A) h1 sc_step_price h2 h3 (by decide) fun cdv Ar outer s H E hr =>
    (pds_cons (pds_if (pdt_cmp (opd_eq hr.units) (pd_ix ixd_seq (pd_var 1 (pv 1)) pd_int) pd_str) (pds_one (pds_ret pd_int)) pds_nil) (pds_cons (pds_set 2 (pd_ix ixd_seq (pd_prop T.p_sizes hr (by first | decide | omega) (pd_var 0 (pv 0))) (pd_ix ixd_seq (pd_var 1 (pv 1)) pd_int)) nd) (pds_cons (pds_if (pdt_cmp (opd_eq hr.units) (pd_ix ixd_seq (pd_prop T.p_zones hr (by first | decide | omega) (pd_var 0 (pv 0))) (pd_ix ixd_seq (pd_var 1 (pv 1)) pd_int)) (pd_ix ixd_seq (pd_prop T.p_zones hr (by first | decide | omega) (pd_var 0 (pv 0))) (pd_ix ixd_seq (pd_var 1 (pv 1)) pd_int))) (pds_one (pds_ret (pd_var 2 (pv 2)))) pds_nil) (pds_one (pds_ret (pd_bin opd_mul (pd_var 2 (pv 2)) (pd_prop T.p_far hr (by first | decide | omega) (pd_var 0 (pv 0)))))))))
theorem sc_price : FnScope ["cluster", "placing", "step"] ["cluster", "placing", "step"] (defScope s_price) := ⟨rfl, rfl, rfl, by decide +kernel, rfl, by decide +kernel, by decide +kernel⟩
theorem B_price (T : Facts P w K mg base tbs A) : FnB P w K mg base tbs "price" 8 3 (F_price A) := by
  obtain ⟨f, fd, h1, h2, h3⟩ := T.f_price.ex
  have nd := (sc_price).nd
  exact fnb_of (k := 7) (g := g_price A) h1 sc_price h2 h3 (by decide) fun cdv Ar outer s H E hr =>
    (pds_cons (pds_expr (pd_call (B_after T) hr (by first | decide | omega) (by rfl) passE (pda_cons (pd_var 0 (pv 0)) (pda_cons (pd_var 1 (pv 1)) (pda_cons (pd_var 2 (pv 2)) pda_nil))))) (pds_one (pds_ret (pd_call (B_step_price T) hr (by first | decide | omega) (by rfl) passE (pda_cons (pd_var 0 (pv 0)) (pda_cons (pd_var 2 (pv 2)) pda_nil))))))
theorem sc_walk : FnScope ["cluster", "placing", "way", "passed", "index", "step", "result"] ["cluster", "placing", "way"] (defScope s_walk) := ⟨rfl, rfl, rfl, by decide +kernel, rfl, by decide +kernel, by decide +kernel⟩
theorem B_walk (T : Facts P w K mg base tbs A) : FnB P w K mg base tbs "walk" 7 3 (F_walk A) := by
  obtain ⟨f, fd, h1, h2, h3⟩ := T.f_walk.ex
  have nd := (sc_walk).nd
  exact fnb_of (k := 6) (g := g_walk A) h1 sc_walk h2 h3 (by decide) fun cdv Ar outer s H E hr =>
    (pds_cons (pds_expr (pd_call (B_check_placing T) hr (by first | decide | omega) (by rfl) passE (pda_cons (pd_var 0 (pv 0)) (pda_cons (pd_var 1 (pv 1)) pda_nil)))) (pds_cons (pds_if (pdt_not (pdt_val (pd_isi2 (T1 := "list") (T2 := "tuple") (by rfl) T.m_isinstance (pd_var 2 (pv 2)) (pe_bltn (by rfl) T.m_list bt_list rfl) (pe_bltn (by rfl) T.m_tuple bt_tuple rfl)))) (pds_one (pds_raiseS tkE rfl (by rfl) T.k_BadSteps T.y_BadSteps hr (by first | decide | omega) pd_non)) pds_nil) (pds_cons (pds_own 3 (pdn_lst (pda_cons (pd_var 1 (pv 1)) pda_nil)) nd) (pds_cons (pds_for (passes_of rfl) rfl (pdi_enum (by rfl) T.m_enumerate (pda_cons (pd_var 2 (pv 2)) pda_nil)) (pdg_tup rfl (pdgs_cons (pdg_name 4 (pg_name nd rfl (by first | exact .inl rfl | exact .inr rfl))) (pdgs_cons (pdg_name 5 (pg_name nd rfl (by first | exact .inl rfl | exact .inr rfl))) pdgs_nil)) fun t ht => pg_tup rfl ht) (pds_cons (pds_set 6 (pd_call (B_placing_after T) hr (by first | decide | omega) (by rfl) passE (pda_cons (pd_var 0 (pv 0)) (pda_cons (pd_ownIx 3 (pv 3) (pd_neg pd_int)) (pda_cons (pd_var 5 (pv 5)) pda_nil)))) nd) (pds_cons (pds_if (pdt_cmp opd_isN (pd_var 6 (pv 6)) pd_non) (pds_one (pds_raiseS tkE rfl (by rfl) T.k_BadSteps T.y_BadSteps hr (by first | decide | omega) (pd_var 4 (pv 4)))) pds_nil) (pds_one (pds_app 3 (pd_var 6 (pv 6)) fun te h => ps_expr (pe_bm PySem.F.plainAttrs_list PySem.F.slot_list_append PySem.F.type_list_append mt_append (pv 3) (pa_cons h pa_nil))))))) (pdss_frz 3 (pds_one (pds_ret (pd_var 3 (pv 3)))))))))
theorem sc_way_price : FnScope ["cluster", "way", "step"] ["cluster", "way"] (defScope s_way_price) := ⟨rfl, rfl, rfl, by decide +kernel, rfl, by decide +kernel, by decide +kernel⟩
theorem B_way_price (T : Facts P w K mg base tbs A) : FnB P w K mg base tbs "way_price" 4 2 (F_way_price A) := by
  obtain ⟨f, fd, h1, h2, h3⟩ := T.f_way_price.ex
  have nd := (sc_way_price).nd
  exact fnb_of (k := 3) (g := g_way_price A) h1 sc_way_price h2 h3 (by decide) fun cdv Ar outer s H E hr =>
    (pds_one (pds_ret (pd_callB (cd_sum rfl) (by rfl) T.m_sum bt_sum (pda_cons (pd_lc rfl nd (pdi_seq (pd_var 1 (pv 1))) (blkOk_by (own := [("step", 2)]) (by kernel_rfl)) (fun _ _ _ _ _ => (pdg_name 2 (pg_name nd rfl (by first | exact .inl rfl | exact .inr rfl)))) (fun _ _ _ _ _ => pdts_nil) (fun _ _ _ _ _ => (pd_call (B_step_price T) hr (by first | decide | omega) (by rfl) passB (pda_cons (pd_var 0 (pv 0)) (pda_cons (pd_var 2 (pv 2)) pda_nil))))) pda_nil))))
theorem sc_cost : FnScope ["cluster", "placing", "way"] ["cluster", "placing", "way"] (defScope s_cost) := ⟨rfl, rfl, rfl, by decide +kernel, rfl, by decide +kernel, by decide +kernel⟩
theorem B_cost (T : Facts P w K mg base tbs A) : FnB P w K mg base tbs "cost" 8 3 (F_cost A) := by
  obtain ⟨f, fd, h1, h2, h3⟩ := T.f_cost.ex
  have nd := (sc_cost).nd
  exact fnb_of (k := 7) (g := g_cost A) h1 sc_cost h2 h3 (by decide) fun cdv Ar outer s H E hr =>
    (pds_cons (pds_expr (pd_call (B_walk T) hr (by first | decide | omega) (by rfl) passE (pda_cons (pd_var 0 (pv 0)) (pda_cons (pd_var 1 (pv 1)) (pda_cons (pd_var 2 (pv 2)) pda_nil))))) (pds_one (pds_ret (pd_call (B_way_price T) hr (by first | decide | omega) (by rfl) passE (pda_cons (pd_var 0 (pv 0)) (pda_cons (pd_var 2 (pv 2)) pda_nil))))))
theorem sc__law_cell_at : FnScope ["script", "k"] ["script", "k"] (defScope s__law_cell_at) := ⟨rfl, rfl, rfl, by decide +kernel, rfl, by decide +kernel, by decide +kernel⟩
theorem B__law_cell_at (T : Facts P w K mg base tbs A) : FnB P w K mg base tbs "_law_cell_at" 2 2 (F__law_cell_at A) := by
  obtain ⟨f, fd, h1, h2, h3⟩ := T.f__law_cell_at.ex
  have nd := (sc__law_cell_at).nd
  exact fnb_of (k := 1) (g := g__law_cell_at A) h1 sc__law_cell_at h2 h3 (by decide) fun cdv Ar outer s H E hr =>
    (pds_cons (pds_if (pdt_cmp opd_lt (pd_var 1 (pv 1)) (pd_callB cd_len (by rfl) T.m_len bt_len (pda_cons (pd_var 0 (pv 0)) pda_nil))) (pds_one (pds_ret (pd_ix ixd_seq (pd_var 0 (pv 0)) (pd_var 1 (pv 1))))) pds_nil) (pds_one (pds_ret pd_int)))
theorem sc__law_draw : FnScope ["cell", "k", "bound", "primes"] ["cell", "k", "bound"] (defScope s__law_draw) := ⟨rfl, rfl, rfl, by decide +kernel, rfl, by decide +kernel, by decide +kernel⟩
theorem B__law_draw (T : Facts P w K mg base tbs A) : FnB P w K mg base tbs "_law_draw" 2 3 (F__law_draw A) := by
  obtain ⟨f, fd, h1, h2, h3⟩ := T.f__law_draw.ex
  have nd := (sc__law_draw).nd
  exact fnb_of (k := 1) (g := g__law_draw A) h1 sc__law_draw h2 h3 (by decide) fun cdv Ar outer s H E hr =>
    (pds_cons (pds_set 3 (pd_tup (pda_cons pd_int (pda_cons pd_int (pda_cons pd_int (pda_cons pd_int (pda_cons pd_int (pda_cons pd_int (pda_cons pd_int (pda_cons pd_int (pda_cons pd_int (pda_cons pd_int (pda_cons pd_int (pda_cons pd_int (pda_cons pd_int (pda_cons pd_int (pda_cons pd_int (pda_cons pd_int pda_nil))))))))))))))))) nd) (pds_one (pds_ret (pd_bin opd_mod (pd_bin opd_mod (pd_callT cd_int (by rfl) T.m_int bt_int (pda_cons (pd_bin opd_add (pd_bin opd_mul (pd_var 0 (pv 0)) pd_int) (pd_bin opd_mul (pd_var 1 (pv 1)) pd_int)) pda_nil)) (pd_ix ixd_seq (pd_var 3 (pv 3)) (pd_bin opd_mod (pd_callT cd_int (by rfl) T.m_int bt_int (pda_cons (pd_var 1 (pv 1)) pda_nil)) pd_int))) (pd_var 2 (pv 2))))))
theorem sc__law_number : FnScope ["cell", "k", "bound", "power", "times", "remains", "small"] ["cell", "k", "bound"] (defScope s__law_number) := ⟨rfl, rfl, rfl, by decide +kernel, rfl, by decide +kernel, by decide +kernel⟩
theorem B__law_number (T : Facts P w K mg base tbs A) : FnB P w K mg base tbs "_law_number" 3 3 (F__law_number A) := by
  obtain ⟨f, fd, h1, h2, h3⟩ := T.f__law_number.ex
  have nd := (sc__law_number).nd
  exact fnb_of (k := 2) (g := g__law_number A) h1 sc__law_number h2 h3 (by decide) fun cdv Ar outer s H E hr =>
    (pds_cons (pds_set 3 pd_int nd) (pds_cons (pds_for (passes_of rfl) rfl (pdi_range1 (by rfl) T.m_range (pda_cons (pd_bin opd_mod (pd_callT cd_int (by rfl) T.m_int bt_int (pda_cons (pd_var 1 (pv 1)) pda_nil)) pd_int) pda_nil)) (pdg_name 4 (pg_name nd rfl (by first | exact .inl rfl | exact .inr rfl))) (pds_one (pds_set 3 (pd_bin opd_mul (pd_var 3 (pv 3)) pd_int) nd))) (pds_cons (pds_set 5 (pd_bin opd_div (pd_bin opd_sub (pd_var 0 (pv 0)) (pd_bin opd_pow pd_int pd_int)) (pd_var 3 (pv 3))) nd) (pds_cons (pds_if (pdt_cmp opd_gt (pd_var 5 (pv 5)) pd_int) (pds_one (pds_ret (pd_bin opd_mod (pd_bin opd_mod (pd_callT cd_int (by rfl) T.m_int bt_int (pda_cons (pd_var 5 (pv 5)) pda_nil)) pd_int) (pd_var 2 (pv 2))))) pds_nil) (pds_cons (pds_set 6 (pd_bin opd_mod (pd_callT cd_int (by rfl) T.m_int bt_int (pda_cons (pd_var 0 (pv 0)) pda_nil)) pd_int) nd) (pds_one (pds_ret (pd_bin opd_mod (pd_call (B__law_draw T) hr (by first | decide | omega) (by rfl) passE (pda_cons (pd_bin opd_mul (pd_bin opd_add (pd_var 6 (pv 6)) (pd_bin opd_mul pd_int (pd_var 1 (pv 1)))) (pd_bin opd_add (pd_bin opd_add (pd_var 6 (pv 6)) (pd_bin opd_mul pd_int (pd_var 1 (pv 1)))) pd_int)) (pda_cons (pd_bin opd_add (pd_bin opd_mod (pd_callT cd_int (by rfl) T.m_int bt_int (pda_cons (pd_var 1 (pv 1)) pda_nil)) pd_int) pd_int) (pda_cons pd_int pda_nil)))) (pd_var 2 (pv 2))))))))))
theorem sc__law_next : FnScope ["draw", "bound", "at", "cell"] ["draw", "bound"] (defScope s__law_next) := ⟨rfl, rfl, rfl, by decide +kernel, rfl, by decide +kernel, by decide +kernel⟩
theorem B__law_next (T : Facts P w K mg base tbs A) : FnB P w K mg base tbs "_law_next" 4 2 (F__law_next A) := by
  obtain ⟨f, fd, h1, h2, h3⟩ := T.f__law_next.ex
  have nd := (sc__law_next).nd
  exact fnb_of (k := 3) (g := g__law_next A) h1 sc__law_next h2 h3 (by decide) fun cdv Ar outer s H E hr =>
    (pds_cons (pds_put 0 (pd_bin opd_add (pd_ownIx 0 (pv 0) pd_int) pd_int) pd_int fun te ti he hi => ps_asg he (pg_sub (pv 0) hi set_list)) (pds_cons (pds_set 2 (pd_bin opd_div (pd_ownIx 0 (pv 0) pd_int) pd_int) nd) (pds_cons (pds_set 3 (pd_bin opd_add (pd_call (B__law_cell_at T) hr (by first | decide | omega) (by rfl) passE (pda_cons (pd_ownIx 0 (pv 0) pd_int) (pda_cons (pd_bin opd_add (pd_ownIx 0 (pv 0) pd_int) (pd_var 2 (pv 2))) pda_nil))) (pd_bin opd_mul pd_int (pd_var 2 (pv 2)))) nd) (pds_one (pds_ret (pd_call (B__law_number T) hr (by first | decide | omega) (by rfl) passE (pda_cons (pd_var 3 (pv 3)) (pda_cons (pd_bin opd_add (pd_bin opd_mod (pd_callT cd_int (by rfl) T.m_int bt_int (pda_cons (pd_ownIx 0 (pv 0) pd_int) pda_nil)) pd_int) pd_int) (pda_cons (pd_var 1 (pv 1)) pda_nil)))))))))
theorem sc__law_pick : FnScope ["draw", "things"] ["draw", "things"] (defScope s__law_pick) := ⟨rfl, rfl, rfl, by decide +kernel, rfl, by decide +kernel, by decide +kernel⟩
theorem B__law_pick (T : Facts P w K mg base tbs A) : FnB P w K mg base tbs "_law_pick" 5 2 (F__law_pick A) := by
  obtain ⟨f, fd, h1, h2, h3⟩ := T.f__law_pick.ex
  have nd := (sc__law_pick).nd
  exact fnb_of (k := 4) (g := g__law_pick A) h1 sc__law_pick h2 h3 (by decide) fun cdv Ar outer s H E hr =>
    (pds_one (pds_ret (pd_ix ixd_seq (pd_var 1 (pv 1)) (pd_call (B__law_next T) hr (by first | decide | omega) (by rfl) passE (pda_own 0 (pv 0) (pda_cons (pd_callB cd_len (by rfl) T.m_len bt_len (pda_cons (pd_var 1 (pv 1)) pda_nil)) pda_nil))))))
theorem sc__law_cluster : FnScope ["draw", "many", "least", "spaces", "one", "bulks", "areas", "toll", "is_strict"] ["draw"] (defScope s__law_cluster) := ⟨rfl, rfl, rfl, by decide +kernel, rfl, by decide +kernel, by decide +kernel⟩
theorem B__law_cluster (T : Facts P w K mg base tbs A) : FnB P w K mg base tbs "_law_cluster" 6 1 (F__law_cluster A) := by
  obtain ⟨f, fd, h1, h2, h3⟩ := T.f__law_cluster.ex
  have nd := (sc__law_cluster).nd
  exact fnb_of (k := 5) (g := g__law_cluster A) h1 sc__law_cluster h2 h3 (by decide) fun cdv Ar outer s H E hr =>
    (pds_cons (pds_par (pda_cons (pd_bin opd_add pd_int (pd_call (B__law_next T) hr (by first | decide | omega) (by rfl) passE (pda_own 0 (pv 0) (pda_cons pd_int pda_nil)))) (pda_cons (pd_bin opd_add pd_int (pd_if (pdt_cmp (opd_eq hr.units) (pd_call (B__law_next T) hr (by first | decide | omega) (by rfl) passE (pda_own 0 (pv 0) (pda_cons pd_int pda_nil))) pd_int) pd_int pd_int)) pda_nil)) fun t ht => ps_par rfl nd rfl rfl (by decide) rfl rfl ht (by rfl)) (pds_cons (pds_set 3 (pd_callT cd_tuple (by rfl) T.m_tuple bt_tuple (pda_cons (pd_lc rfl nd (pdi_range1 (by rfl) T.m_range (pda_cons (pd_var 1 (pv 1)) pda_nil)) (blkOk_by (own := [("one", 4)]) (by kernel_rfl)) (fun _ _ _ _ _ => (pdg_name 4 (pg_name nd rfl (by first | exact .inl rfl | exact .inr rfl)))) (fun _ _ _ _ _ => pdts_nil) (fun _ _ _ _ _ => (pd_bin opd_add pd_int (pd_call (B__law_next T) hr (by first | decide | omega) (by rfl) passB (pda_own 0 (pv 0) (pda_cons pd_int pda_nil)))))) pda_nil)) nd) (pds_cons (pds_set 5 (pd_callT cd_tuple (by rfl) T.m_tuple bt_tuple (pda_cons (pd_lc rfl nd (pdi_range1 (by rfl) T.m_range (pda_cons (pd_bin opd_add pd_int (pd_call (B__law_next T) hr (by first | decide | omega) (by rfl) passE (pda_own 0 (pv 0) (pda_cons pd_int pda_nil)))) pda_nil)) (blkOk_by (own := [("one", 4)]) (by kernel_rfl)) (fun _ _ _ _ _ => (pdg_name 4 (pg_name nd rfl (by first | exact .inl rfl | exact .inr rfl)))) (fun _ _ _ _ _ => pdts_nil) (fun _ _ _ _ _ => (pd_bin opd_add pd_int (pd_call (B__law_next T) hr (by first | decide | omega) (by rfl) passB (pda_own 0 (pv 0) (pda_cons pd_int pda_nil)))))) pda_nil)) nd) (pds_cons (pds_set 6 (pd_callT cd_tuple (by rfl) T.m_tuple bt_tuple (pda_cons (pd_lc rfl nd (pdi_range1 (by rfl) T.m_range (pda_cons (pd_var 1 (pv 1)) pda_nil)) (blkOk_by (own := [("one", 4)]) (by kernel_rfl)) (fun _ _ _ _ _ => (pdg_name 4 (pg_name nd rfl (by first | exact .inl rfl | exact .inr rfl)))) (fun _ _ _ _ _ => pdts_nil) (fun _ _ _ _ _ => (pd_call (B__law_next T) hr (by first | decide | omega) (by rfl) passB (pda_own 0 (pv 0) (pda_cons pd_int pda_nil))))) pda_nil)) nd) (pds_cons (pds_par (pda_cons (pd_bin opd_add pd_int (pd_call (B__law_next T) hr (by first | decide | omega) (by rfl) passE (pda_own 0 (pv 0) (pda_cons pd_int pda_nil)))) (pda_cons (pd_cmp (opd_eq hr.units) (pd_call (B__law_next T) hr (by first | decide | omega) (by rfl) passE (pda_own 0 (pv 0) (pda_cons pd_int pda_nil))) pd_int) pda_nil)) fun t ht => ps_par rfl nd rfl rfl (by decide) rfl rfl ht (by rfl)) (pds_one (pds_ret (pd_makeK (B_Cluster T) hr (by first | decide | omega) (by rfl) T.k_Cluster passE (pda_cons (pd_var 3 (pv 3)) (pda_cons (pd_var 5 (pv 5)) pda_nil)) (pdk_cons (pd_var 6 (pv 6)) (pdk_cons (pd_var 7 (pv 7)) (pdk_cons (pd_var 2 (pv 2)) (pdk_cons (pd_var 8 (pv 8)) pdk_nil))))))))))))
theorem sc__law_spread : FnScope ["cluster", "some", "one"] ["cluster", "some"] (defScope s__law_spread) := ⟨rfl, rfl, rfl, by decide +kernel, rfl, by decide +kernel, by decide +kernel⟩
theorem B__law_spread (T : Facts P w K mg base tbs A) : FnB P w K mg base tbs "_law_spread" 3 2 (F__law_spread A) := by
  obtain ⟨f, fd, h1, h2, h3⟩ := T.f__law_spread.ex
  have nd := (sc__law_spread).nd
  exact fnb_of (k := 2) (g := g__law_spread A) h1 sc__law_spread h2 h3 (by decide) fun cdv Ar outer s H E hr =>
    (pds_one (pds_ret (pd_cmp (opd_eq hr.units) (pd_dictlen rfl (by rfl) T.m_len (by rfl) T.m_dict (pd_lc rfl nd (pdi_seq (pd_var 1 (pv 1))) (blkOk_by (own := [("one", 2)]) (by kernel_rfl)) (fun _ _ _ _ _ => (pdg_name 2 (pg_name nd rfl (by first | exact .inl rfl | exact .inr rfl)))) (fun _ _ _ _ _ => pdts_nil) (fun _ _ _ _ _ => (pd_tup (pda_cons (pd_ix ixd_seq (pd_prop T.p_zones hr (by first | decide | omega) (pd_var 0 (pv 0))) (pd_var 2 (pv 2))) (pda_cons pd_int pda_nil)))))) (pd_callB cd_len (by rfl) T.m_len bt_len (pda_cons (pd_var 1 (pv 1)) pda_nil)))))
theorem sc__law_choices : FnScope ["cluster", "found", "machine", "some", "fit"] ["cluster"] (defScope s__law_choices) := ⟨rfl, rfl, rfl, by decide +kernel, rfl, by decide +kernel, by decide +kernel⟩
theorem B__law_choices (T : Facts P w K mg base tbs A) : FnB P w K mg base tbs "_law_choices" 4 1 (F__law_choices A) := by
  obtain ⟨f, fd, h1, h2, h3⟩ := T.f__law_choices.ex
  have nd := (sc__law_choices).nd
  exact fnb_of (k := 3) (g := g__law_choices A) h1 sc__law_choices h2 h3 (by decide) fun cdv Ar outer s H E hr =>
    (pds_cons (pds_set 1 (pd_lst (pda_cons (pd_tup pda_nil) pda_nil)) nd) (pds_cons (pds_for (passes_of rfl) rfl (pdi_range1 (by rfl) T.m_range (pda_cons (pd_callB cd_len (by rfl) T.m_len bt_len (pda_cons (pd_prop T.p_rooms hr (by first | decide | omega) (pd_var 0 (pv 0))) pda_nil)) pda_nil)) (pdg_name 2 (pg_name nd rfl (by first | exact .inl rfl | exact .inr rfl))) (pds_one (pds_set 1 (pd_bin opd_add (pd_var 1 (pv 1)) (pd_lc rfl nd (pdi_seq (pd_var 1 (pv 1))) (blkOk_by (own := [("some", 3)]) (by kernel_rfl)) (fun _ _ _ _ _ => (pdg_name 3 (pg_name nd rfl (by first | exact .inl rfl | exact .inr rfl)))) (fun _ _ _ _ _ => pdts_nil) (fun _ _ _ _ _ => (pd_bin opd_add (pd_var 3 (pv 3)) (pd_tup (pda_cons (pd_var 2 (pv 2)) pda_nil)))))) nd))) (pds_cons (pds_setLc 4 (is := [3]) rfl nd rfl rfl (sw_true rfl rfl rfl (by kernel_rfl)) (pdi_seq (pd_var 1 (pv 1))) (blkOk_by (own := [("some", 3)]) (by kernel_rfl)) (fun _ _ _ _ _ => (pdg_name 3 (pg_name nd rfl (by first | exact .inl rfl | exact .inr rfl)))) (fun _ _ _ _ _ => (pdts_one (pdt_cmp opd_ge (pd_callB cd_len (by rfl) T.m_len bt_len (pda_cons (pd_var 3 (pv 3)) pda_nil)) (pd_prop T.p_alive hr (by first | decide | omega) (pd_var 0 (pv 0)))))) (fun _ _ _ _ _ => (pd_var 3 (pv 3)))) (pds_cons (pds_if (pdt_val (pd_prop T.p_apart hr (by first | decide | omega) (pd_var 0 (pv 0)))) (pds_one (pds_setLc 4 (is := [3]) rfl nd rfl rfl (sw_true rfl rfl rfl (by kernel_rfl)) (pdi_seq (pd_var 4 (pv 4))) (blkOk_by (own := [("some", 3)]) (by kernel_rfl)) (fun _ _ _ _ _ => (pdg_name 3 (pg_name nd rfl (by first | exact .inl rfl | exact .inr rfl)))) (fun _ _ _ _ _ => (pdts_one (pdt_val (pd_call (B__law_spread T) hr (by first | decide | omega) (by rfl) passB (pda_cons (pd_var 0 (pv 0)) (pda_cons (pd_var 3 (pv 3)) pda_nil)))))) (fun _ _ _ _ _ => (pd_var 3 (pv 3))))) pds_nil) (pds_one (pds_ret (pd_callB (cd_sortedA hr.units) (by rfl) T.m_sorted bt_sorted (pda_cons (pd_var 4 (pv 4)) pda_nil))))))))
theorem sc__law_held : FnScope ["cluster", "placing", "found", "machine", "rows", "size", "some"] ["cluster", "placing"] (defScope s__law_held) := ⟨rfl, rfl, rfl, by decide +kernel, rfl, by decide +kernel, by decide +kernel⟩
theorem B__law_held (T : Facts P w K mg base tbs A) : FnB P w K mg base tbs "_law_held" 3 2 (F__law_held A) := by
  obtain ⟨f, fd, h1, h2, h3⟩ := T.f__law_held.ex
  have nd := (sc__law_held).nd
  exact fnb_of (k := 2) (g := g__law_held A) h1 sc__law_held h2 h3 (by decide) fun cdv Ar outer s H E hr =>
    (pds_cons (pds_own 2 (pdn_lst pda_nil) nd) (pds_cons (pds_for (passes_of rfl) rfl (pdi_range1 (by rfl) T.m_range (pda_cons (pd_callB cd_len (by rfl) T.m_len bt_len (pda_cons (pd_prop T.p_rooms hr (by first | decide | omega) (pd_var 0 (pv 0))) pda_nil)) pda_nil)) (pdg_name 3 (pg_name nd rfl (by first | exact .inl rfl | exact .inr rfl))) (pds_cons (pds_setLc 4 (is := [5, 6]) rfl nd rfl rfl (sw_true rfl rfl rfl (by kernel_rfl)) (pdi_zipT (by rfl) T.m_zip (pda_cons (pd_prop T.p_sizes hr (by first | decide | omega) (pd_var 0 (pv 0))) (pda_cons (pd_var 1 (pv 1)) pda_nil))) (blkOk_by (own := [("size", 5), ("some", 6)]) (by kernel_rfl)) (fun _ _ _ _ _ => (pdg_tup rfl (pdgs_cons (pdg_name 5 (pg_name nd rfl (by first | exact .inl rfl | exact .inr rfl))) (pdgs_cons (pdg_name 6 (pg_name nd rfl (by first | exact .inl rfl | exact .inr rfl))) pdgs_nil)) fun t ht => pg_tup rfl ht)) (fun _ _ _ _ _ => (pdts_one (pdt_cmp (opd_in (hu65 hr)) (pd_var 3 (pv 3)) (pd_var 6 (pv 6))))) (fun _ _ _ _ _ => (pd_var 5 (pv 5)))) (pds_one (pds_app 2 (pd_callB (cd_sum rfl) (by rfl) T.m_sum bt_sum (pda_cons (pd_var 4 (pv 4)) pda_nil)) fun te h => ps_expr (pe_bm PySem.F.plainAttrs_list PySem.F.slot_list_append PySem.F.type_list_append mt_append (pv 2) (pa_cons h pa_nil)))))) (pdss_frz 2 (pds_one (pds_ret (pd_var 2 (pv 2)))))))
theorem sc__law_fits : FnScope ["cluster", "placing", "held_v", "room"] ["cluster", "placing"] (defScope s__law_fits) := ⟨rfl, rfl, rfl, by decide +kernel, rfl, by decide +kernel, by decide +kernel⟩
theorem B__law_fits (T : Facts P w K mg base tbs A) : FnB P w K mg base tbs "_law_fits" 4 2 (F__law_fits A) := by
  obtain ⟨f, fd, h1, h2, h3⟩ := T.f__law_fits.ex
  have nd := (sc__law_fits).nd
  exact fnb_of (k := 3) (g := g__law_fits A) h1 sc__law_fits h2 h3 (by decide) fun cdv Ar outer s H E hr =>
    (pds_cons (pds_for (passes_of rfl) rfl (pdi_zipM (by rfl) T.m_zip (pda_cons (pd_call (B__law_held T) hr (by first | decide | omega) (by rfl) passE (pda_cons (pd_var 0 (pv 0)) (pda_cons (pd_var 1 (pv 1)) pda_nil))) (pda_cons (pd_prop T.p_rooms hr (by first | decide | omega) (pd_var 0 (pv 0))) pda_nil))) (pdg_tup rfl (pdgs_cons (pdg_name 2 (pg_name nd rfl (by first | exact .inl rfl | exact .inr rfl))) (pdgs_cons (pdg_name 3 (pg_name nd rfl (by first | exact .inl rfl | exact .inr rfl))) pdgs_nil)) fun t ht => pg_tup rfl ht) (pds_one (pds_if (pdt_cmp opd_gt (pd_var 2 (pv 2)) (pd_var 3 (pv 3))) (pds_one (pds_ret pd_bl)) pds_nil))) (pds_one (pds_ret pd_bl)))
theorem sc__law_longer : FnScope ["cluster", "rows", "found", "row", "more", "some", "late"] ["cluster", "rows"] (defScope s__law_longer) := ⟨rfl, rfl, rfl, by decide +kernel, rfl, by decide +kernel, by decide +kernel⟩
theorem B__law_longer (T : Facts P w K mg base tbs A) : FnB P w K mg base tbs "_law_longer" 5 2 (F__law_longer A) := by
  obtain ⟨f, fd, h1, h2, h3⟩ := T.f__law_longer.ex
  have nd := (sc__law_longer).nd
  exact fnb_of (k := 4) (g := g__law_longer A) h1 sc__law_longer h2 h3 (by decide) fun cdv Ar outer s H E hr =>
    (pds_cons (pds_set 2 (pd_lst pda_nil) nd) (pds_cons (pds_for (passes_of rfl) rfl (pdi_seq (pd_var 1 (pv 1))) (pdg_name 3 (pg_name nd rfl (by first | exact .inl rfl | exact .inr rfl))) (pds_cons (pds_setLc 4 (is := [5]) rfl nd rfl rfl (sw_true rfl rfl rfl (by kernel_rfl)) (pdi_seq (pd_call (B__law_choices T) hr (by first | decide | omega) (by rfl) passE (pda_cons (pd_var 0 (pv 0)) pda_nil))) (blkOk_by (own := [("some", 5)]) (by kernel_rfl)) (fun _ _ _ _ _ => (pdg_name 5 (pg_name nd rfl (by first | exact .inl rfl | exact .inr rfl)))) (fun _ _ _ _ _ => pdts_nil) (fun _ _ _ _ _ => (pd_bin opd_add (pd_var 3 (pv 3)) (pd_tup (pda_cons (pd_var 5 (pv 5)) pda_nil))))) (pds_one (pds_set 2 (pd_bin opd_add (pd_var 2 (pv 2)) (pd_lc rfl nd (pdi_seq (pd_var 4 (pv 4))) (blkOk_by (own := [("late", 6)]) (by kernel_rfl)) (fun _ _ _ _ _ => (pdg_name 6 (pg_name nd rfl (by first | exact .inl rfl | exact .inr rfl)))) (fun _ _ _ _ _ => (pdts_one (pdt_val (pd_call (B__law_fits T) hr (by first | decide | omega) (by rfl) passB (pda_cons (pd_var 0 (pv 0)) (pda_cons (pd_var 6 (pv 6)) pda_nil)))))) (fun _ _ _ _ _ => (pd_var 6 (pv 6))))) nd)))) (pds_one (pds_ret (pd_var 2 (pv 2))))))
theorem sc__law_every : FnScope ["cluster", "found", "size"] ["cluster"] (defScope s__law_every) := ⟨rfl, rfl, rfl, by decide +kernel, rfl, by decide +kernel, by decide +kernel⟩
theorem B__law_every (T : Facts P w K mg base tbs A) : FnB P w K mg base tbs "_law_every" 6 1 (F__law_every A) := by
  obtain ⟨f, fd, h1, h2, h3⟩ := T.f__law_every.ex
  have nd := (sc__law_every).nd
  exact fnb_of (k := 5) (g := g__law_every A) h1 sc__law_every h2 h3 (by decide) fun cdv Ar outer s H E hr =>
    (pds_cons (pds_set 1 (pd_lst (pda_cons (pd_tup pda_nil) pda_nil)) nd) (pds_cons (pds_for (passes_of rfl) rfl (pdi_seq (pd_prop T.p_sizes hr (by first | decide | omega) (pd_var 0 (pv 0)))) (pdg_name 2 (pg_name nd rfl (by first | exact .inl rfl | exact .inr rfl))) (pds_one (pds_set 1 (pd_call (B__law_longer T) hr (by first | decide | omega) (by rfl) passE (pda_cons (pd_var 0 (pv 0)) (pda_cons (pd_var 1 (pv 1)) pda_nil))) nd))) (pds_one (pds_ret (pd_var 1 (pv 1))))))
theorem sc__law_with : FnScope ["placing", "shard", "some"] ["placing", "shard", "some"] (defScope s__law_with) := ⟨rfl, rfl, rfl, by decide +kernel, rfl, by decide +kernel, by decide +kernel⟩
theorem B__law_with (T : Facts P w K mg base tbs A) : FnB P w K mg base tbs "_law_with" 2 3 (F__law_with A) := by
  obtain ⟨f, fd, h1, h2, h3⟩ := T.f__law_with.ex
  have nd := (sc__law_with).nd
  exact fnb_of (k := 1) (g := g__law_with A) h1 sc__law_with h2 h3 (by decide) fun cdv Ar outer s H E hr =>
    (pds_one (pds_ret (pd_bin opd_add (pd_bin opd_add (pd_slice (pd_var 0 (pv 0)) pdo_none (pdo_some (pd_var 1 (pv 1)))) (pd_tup (pda_cons (pd_callT cd_tuple (by rfl) T.m_tuple bt_tuple (pda_cons (pd_callB (cd_sortedA hr.units) (by rfl) T.m_sorted bt_sorted (pda_cons (pd_var 2 (pv 2)) pda_nil)) pda_nil)) pda_nil))) (pd_slice (pd_var 0 (pv 0)) (pdo_some (pd_bin opd_add (pd_var 1 (pv 1)) pd_int)) pdo_none))))
theorem sc__law_moves : FnScope ["cluster", "placing", "able", "copies", "drops", "shard", "some", "one", "other", "late", "fee", "rest", "place"] ["cluster", "placing"] (defScope s__law_moves) := ⟨rfl, rfl, rfl, by decide +kernel, rfl, by decide +kernel, by decide +kernel⟩
theorem B__law_moves (T : Facts P w K mg base tbs A) : FnB P w K mg base tbs "_law_moves" 5 2 (F__law_moves A) := by
  obtain ⟨f, fd, h1, h2, h3⟩ := T.f__law_moves.ex
  have nd := (sc__law_moves).nd
  exact fnb_of (k := 4) (g := g__law_moves A) h1 sc__law_moves h2 h3 (by decide) fun cdv Ar outer s H E hr =>
    (pds_cons (pds_parO (pd_call (B__law_choices T) hr (by first | decide | omega) (by rfl) passE (pda_cons (pd_var 0 (pv 0)) pda_nil)) fun t ht => ps_par3 rfl nd rfl rfl rfl (by decide) (by decide) (by decide) rfl rfl rfl ht (by rfl)) (pds_cons (pds_for (passes_of rfl) rfl (pdi_enum (by rfl) T.m_enumerate (pda_cons (pd_var 1 (pv 1)) pda_nil)) (pdg_tup rfl (pdgs_cons (pdg_name 5 (pg_name nd rfl (by first | exact .inl rfl | exact .inr rfl))) (pdgs_cons (pdg_name 6 (pg_name nd rfl (by first | exact .inl rfl | exact .inr rfl))) pdgs_nil)) fun t ht => pg_tup rfl ht) (pds_one (pds_for (passes_of rfl) rfl (pdi_seq (pd_var 6 (pv 6))) (pdg_name 7 (pg_name nd rfl (by first | exact .inl rfl | exact .inr rfl))) (pds_cons (pds_for (passes_of rfl) rfl (pdi_range1 (by rfl) T.m_range (pda_cons (pd_callB cd_len (by rfl) T.m_len bt_len (pda_cons (pd_prop T.p_rooms hr (by first | decide | omega) (pd_var 0 (pv 0))) pda_nil)) pda_nil)) (pdg_name 8 (pg_name nd rfl (by first | exact .inl rfl | exact .inr rfl))) (pds_cons (pds_set 9 (pd_call (B__law_with T) hr (by first | decide | omega) (by rfl) passE (pda_cons (pd_var 1 (pv 1)) (pda_cons (pd_var 5 (pv 5)) (pda_cons (pd_bin opd_add (pd_var 6 (pv 6)) (pd_tup (pda_cons (pd_var 8 (pv 8)) pda_nil))) pda_nil)))) nd) (pds_cons (pds_if (PDW.pdt (pdw_or (pdt_cmp (opd_in (hu65 hr)) (pd_var 8 (pv 8)) (pd_var 6 (pv 6))) (pdw_or1 (pdt_cmp (opd_notIn (hu65 hr)) (pd_ix ixd_seq (pd_var 9 (pv 9)) (pd_var 5 (pv 5))) (pd_var 2 (pv 2)))))) (pds_one pds_continue) pds_nil) (pds_one (pds_if (pdt_val (pd_call (B__law_fits T) hr (by first | decide | omega) (by rfl) passE (pda_cons (pd_var 0 (pv 0)) (pda_cons (pd_var 9 (pv 9)) pda_nil)))) (pds_cons (pds_set 10 (pd_ix ixd_seq (pd_prop T.p_sizes hr (by first | decide | omega) (pd_var 0 (pv 0))) (pd_var 5 (pv 5))) nd) (pds_cons (pds_if (pdt_cmp (opd_ne hr.units) (pd_ix ixd_seq (pd_prop T.p_zones hr (by first | decide | omega) (pd_var 0 (pv 0))) (pd_var 7 (pv 7))) (pd_ix ixd_seq (pd_prop T.p_zones hr (by first | decide | omega) (pd_var 0 (pv 0))) (pd_var 8 (pv 8)))) (pds_one (pds_set 10 (pd_bin opd_mul (pd_var 10 (pv 10)) (pd_prop T.p_far hr (by first | decide | omega) (pd_var 0 (pv 0)))) nd)) pds_nil) (pds_one (pds_app 3 (pd_tup (pda_cons (pd_tup (pda_cons pd_str (pda_cons (pd_var 5 (pv 5)) (pda_cons (pd_var 7 (pv 7)) (pda_cons (pd_var 8 (pv 8)) pda_nil))))) (pda_cons (pd_var 9 (pv 9)) (pda_cons (pd_var 10 (pv 10)) pda_nil)))) fun te h => ps_expr (pe_bm PySem.F.plainAttrs_list PySem.F.slot_list_append PySem.F.type_list_append mt_append (pv 3) (pa_cons h pa_nil)))))) pds_nil))))) (pds_cons (pds_setLc 11 (is := [12]) rfl nd rfl rfl (sw_true rfl rfl rfl (by kernel_rfl)) (pdi_seq (pd_var 6 (pv 6))) (blkOk_by (own := [("place", 12)]) (by kernel_rfl)) (fun _ _ _ _ _ => (pdg_name 12 (pg_name nd rfl (by first | exact .inl rfl | exact .inr rfl)))) (fun _ _ _ _ _ => (pdts_one (pdt_cmp (opd_ne hr.units) (pd_var 12 (pv 12)) (pd_var 7 (pv 7))))) (fun _ _ _ _ _ => (pd_var 12 (pv 12)))) (pds_cons (pds_set 9 (pd_call (B__law_with T) hr (by first | decide | omega) (by rfl) passE (pda_cons (pd_var 1 (pv 1)) (pda_cons (pd_var 5 (pv 5)) (pda_cons (pd_var 11 (pv 11)) pda_nil)))) nd) (pds_one (pds_if (pdt_cmp (opd_in (hu65 hr)) (pd_ix ixd_seq (pd_var 9 (pv 9)) (pd_var 5 (pv 5))) (pd_var 2 (pv 2))) (pds_one (pds_app 4 (pd_tup (pda_cons (pd_tup (pda_cons pd_str (pda_cons (pd_var 5 (pv 5)) (pda_cons (pd_var 7 (pv 7)) pda_nil)))) (pda_cons (pd_var 9 (pv 9)) (pda_cons pd_int pda_nil)))) fun te h => ps_expr (pe_bm PySem.F.plainAttrs_list PySem.F.slot_list_append PySem.F.type_list_append mt_append (pv 4) (pa_cons h pa_nil)))) pds_nil)))))))) (pdss_frz 3 (pdss_frz 4 (pds_one (pds_ret (pd_bin opd_add (pd_var 3 (pv 3)) (pd_var 4 (pv 4)))))))))
theorem sc__law_any : FnScope ["draw", "cluster", "shard", "one"] ["draw", "cluster"] (defScope s__law_any) := ⟨rfl, rfl, rfl, by decide +kernel, rfl, by decide +kernel, by decide +kernel⟩
theorem B__law_any (T : Facts P w K mg base tbs A) : FnB P w K mg base tbs "_law_any" 5 2 (F__law_any A) := by
  obtain ⟨f, fd, h1, h2, h3⟩ := T.f__law_any.ex
  have nd := (sc__law_any).nd
  exact fnb_of (k := 4) (g := g__law_any A) h1 sc__law_any h2 h3 (by decide) fun cdv Ar outer s H E hr =>
    (pds_cons (pds_par (pda_cons (pd_call (B__law_next T) hr (by first | decide | omega) (by rfl) passE (pda_own 0 (pv 0) (pda_cons (pd_callB cd_len (by rfl) T.m_len bt_len (pda_cons (pd_prop T.p_sizes hr (by first | decide | omega) (pd_var 1 (pv 1))) pda_nil)) pda_nil))) (pda_cons (pd_call (B__law_next T) hr (by first | decide | omega) (by rfl) passE (pda_own 0 (pv 0) (pda_cons (pd_callB cd_len (by rfl) T.m_len bt_len (pda_cons (pd_prop T.p_rooms hr (by first | decide | omega) (pd_var 1 (pv 1))) pda_nil)) pda_nil))) pda_nil)) fun t ht => ps_par rfl nd rfl rfl (by decide) rfl rfl ht (by rfl)) (pds_cons (pds_if (pdt_cmp (opd_eq hr.units) (pd_call (B__law_next T) hr (by first | decide | omega) (by rfl) passE (pda_own 0 (pv 0) (pda_cons pd_int pda_nil))) pd_int) (pds_one (pds_ret (pd_tup (pda_cons pd_str (pda_cons (pd_var 2 (pv 2)) (pda_cons (pd_var 3 (pv 3)) pda_nil)))))) pds_nil) (pds_one (pds_ret (pd_tup (pda_cons pd_str (pda_cons (pd_var 2 (pv 2)) (pda_cons (pd_var 3 (pv 3)) (pda_cons (pd_call (B__law_next T) hr (by first | decide | omega) (by rfl) passE (pda_own 0 (pv 0) (pda_cons (pd_callB cd_len (by rfl) T.m_len bt_len (pda_cons (pd_prop T.p_rooms hr (by first | decide | omega) (pd_var 1 (pv 1))) pda_nil)) pda_nil))) pda_nil)))))))))
theorem sc__law_step_right : FnScope ["cluster", "placing", "step", "able", "found", "one", "late", "fee", "due"] ["cluster", "placing", "step"] (defScope s__law_step_right) := ⟨rfl, rfl, rfl, by decide +kernel, rfl, by decide +kernel, by decide +kernel⟩
theorem B__law_step_right (T : Facts P w K mg base tbs A) : FnB P w K mg base tbs "_law_step_right" 11 3 (F__law_step_right A) := by
  obtain ⟨f, fd, cc, Pt, h1, h2, h3, hcode, TB, hmT, huT⟩ := T.f__law_step_right.ex
  have nd := (sc__law_step_right).nd
  exact fnb_ofC (k := 10) (g := g__law_step_right A) h1 sc__law_step_right h2 h3 (by decide) fun Ar outer s H E hr =>
    (pds_cons (pds_set 3 (pd_call (B__law_moves T) hr (by first | decide | omega) (by rfl) passE (pda_cons (pd_var 0 (pv 0)) (pda_cons (pd_var 1 (pv 1)) pda_nil))) nd) (pds_cons (pds_setLc 4 (is := [5, 6, 7]) rfl nd rfl rfl (sw_true rfl rfl rfl (by kernel_rfl)) (pdi_seq (pd_var 3 (pv 3))) (blkOk_by (own := [("one", 5), ("late", 6), ("fee", 7)]) (by kernel_rfl)) (fun _ _ _ _ _ => (pdg_tup rfl (pdgs_cons (pdg_name 5 (pg_name nd rfl (by first | exact .inl rfl | exact .inr rfl))) (pdgs_cons (pdg_name 6 (pg_name nd rfl (by first | exact .inl rfl | exact .inr rfl))) (pdgs_cons (pdg_name 7 (pg_name nd rfl (by first | exact .inl rfl | exact .inr rfl))) pdgs_nil))) fun t ht => pg_tup rfl ht)) (fun _ _ _ _ _ => (pdts_one (pdt_cmp (opd_eq hr.units) (pd_var 5 (pv 5)) (pd_var 2 (pv 2))))) (fun _ _ _ _ _ => (pd_tup (pda_cons (pd_var 6 (pv 6)) (pda_cons (pd_var 7 (pv 7)) pda_nil))))) (pds_cons (pds_set 8 (pd_if (pdt_cmp (opd_ne hr.units) (pd_var 4 (pv 4)) (pd_lst pda_nil)) (pd_ix ixd_seq (pd_var 4 (pv 4)) pd_int) (pd_tup (pda_cons (pd_tup (pda_cons pd_str (pda_cons pd_non pda_nil))) (pda_cons (pd_tup (pda_cons pd_str (pda_cons pd_non pda_nil))) pda_nil)))) nd) (pds_cons (pds_if (pdt_cmp (opd_ne hr.units) (pd_toldB (k := 8) T.q_told (by rfl) TB hcode hmT huT (hr.mono (by decide)) (fun A' o' s' H' E' f' c' hrl => (pd_call (B_after T) hrl (by first | decide | omega) (by rfl) passL (pda_cons (pd_var 0 (pv 0)) (pda_cons (pd_var 1 (pv 1)) (pda_cons (pd_var 2 (pv 2)) pda_nil))))) (LamX.lamS_by (by kernel_rfl)) rfl (fun _ _ _ _ _ => by rfl)) (pd_ix ixd_seq (pd_var 8 (pv 8)) pd_int)) (pds_one (pds_ret pd_bl)) pds_nil) (pds_one (pds_ret (pd_cmp (opd_eq hr.units) (pd_toldB (k := 8) T.q_told (by rfl) TB hcode hmT huT (hr.mono (by decide)) (fun A' o' s' H' E' f' c' hrl => (pd_call (B_price T) hrl (by first | decide | omega) (by rfl) passL (pda_cons (pd_var 0 (pv 0)) (pda_cons (pd_var 1 (pv 1)) (pda_cons (pd_var 2 (pv 2)) pda_nil))))) (LamX.lamS_by (by kernel_rfl)) rfl (fun _ _ _ _ _ => by rfl)) (pd_ix ixd_seq (pd_var 8 (pv 8)) pd_int))))))))
theorem sc__law_way_right : FnScope ["draw", "cluster", "placing", "rows", "way", "total", "turn", "able", "step", "late", "fee", "at", "one", "bent"] ["draw", "cluster", "placing"] (defScope s__law_way_right) := ⟨rfl, rfl, rfl, by decide +kernel, rfl, by decide +kernel, by decide +kernel⟩
theorem B__law_way_right (T : Facts P w K mg base tbs A) : FnB P w K mg base tbs "_law_way_right" 11 3 (F__law_way_right A) := by
  obtain ⟨f, fd, cc, Pt, h1, h2, h3, hcode, TB, hmT, huT⟩ := T.f__law_way_right.ex
  have nd := (sc__law_way_right).nd
  exact fnb_ofC (k := 10) (g := g__law_way_right A) h1 sc__law_way_right h2 h3 (by decide) fun Ar outer s H E hr =>
    (pds_cons (pds_par3 (pda_cons (pd_lst (pda_cons (pd_var 2 (pv 2)) pda_nil)) (pda_cons (pd_lst pda_nil) (pda_cons pd_int pda_nil))) fun t ht => ps_par3 rfl nd rfl rfl rfl (by decide) (by decide) (by decide) rfl rfl rfl ht (by rfl)) (pds_cons (pds_for (passes_of rfl) rfl (pdi_range1 (by rfl) T.m_range (pda_cons pd_int pda_nil)) (pdg_name 6 (pg_name nd rfl (by first | exact .inl rfl | exact .inr rfl))) (pds_cons (pds_set 7 (pd_call (B__law_moves T) hr (by first | decide | omega) (by rfl) passE (pda_cons (pd_var 1 (pv 1)) (pda_cons (pd_ix ixd_seq (pd_var 3 (pv 3)) (pd_neg pd_int)) pda_nil))) nd) (pds_one (pds_if (pdt_cmp (opd_ne hr.units) (pd_var 7 (pv 7)) (pd_lst pda_nil)) (pds_cons (pds_asg (pd_call (B__law_pick T) hr (by first | decide | omega) (by rfl) passE (pda_own 0 (pv 0) (pda_cons (pd_var 7 (pv 7)) pda_nil))) (pdg_tup rfl (pdgs_cons (pdg_name 8 (pg_name nd rfl (by first | exact .inl rfl | exact .inr rfl))) (pdgs_cons (pdg_name 9 (pg_name nd rfl (by first | exact .inl rfl | exact .inr rfl))) (pdgs_cons (pdg_name 10 (pg_name nd rfl (by first | exact .inl rfl | exact .inr rfl))) pdgs_nil))) fun t ht => pg_tup rfl ht) (tupG_no (consG_no (setM_no 8) (consG_no (setM_no 9) (consG_no (setM_no 10) nilG_no))))) (pds_one (pds_par3 (pda_cons (pd_bin opd_add (pd_var 3 (pv 3)) (pd_lst (pda_cons (pd_var 9 (pv 9)) pda_nil))) (pda_cons (pd_bin opd_add (pd_var 4 (pv 4)) (pd_lst (pda_cons (pd_var 8 (pv 8)) pda_nil))) (pda_cons (pd_bin opd_add (pd_var 5 (pv 5)) (pd_var 10 (pv 10))) pda_nil))) fun t ht => ps_par3 rfl nd rfl rfl rfl (by decide) (by decide) (by decide) rfl rfl rfl ht (by rfl)))) pds_nil)))) (pds_cons (pds_if (pdt_cmp (opd_ne hr.units) (pd_call (B_walk T) hr (by first | decide | omega) (by rfl) passE (pda_cons (pd_var 1 (pv 1)) (pda_cons (pd_var 2 (pv 2)) (pda_cons (pd_callT cd_tuple (by rfl) T.m_tuple bt_tuple (pda_cons (pd_var 4 (pv 4)) pda_nil)) pda_nil)))) (pd_var 3 (pv 3))) (pds_one (pds_ret pd_bl)) pds_nil) (pds_cons (pds_if (pdt_cmp (opd_ne hr.units) (pd_call (B_cost T) hr (by first | decide | omega) (by rfl) passE (pda_cons (pd_var 1 (pv 1)) (pda_cons (pd_var 2 (pv 2)) (pda_cons (pd_var 4 (pv 4)) pda_nil)))) (pd_var 5 (pv 5))) (pds_one (pds_ret pd_bl)) pds_nil) (pds_cons (pds_set 11 (pd_call (B__law_next T) hr (by first | decide | omega) (by rfl) passE (pda_own 0 (pv 0) (pda_cons (pd_bin opd_add (pd_callB cd_len (by rfl) T.m_len bt_len (pda_cons (pd_var 4 (pv 4)) pda_nil)) pd_int) pda_nil))) nd) (pds_cons (pds_set 8 (pd_call (B__law_any T) hr (by first | decide | omega) (by rfl) passE (pda_own 0 (pv 0) (pda_cons (pd_var 1 (pv 1)) pda_nil))) nd) (pds_cons (pds_if (pdt_cmp (opd_in (hu65 hr)) (pd_var 8 (pv 8)) (pd_lc rfl nd (pdi_seq (pd_call (B__law_moves T) hr (by first | decide | omega) (by rfl) passE (pda_cons (pd_var 1 (pv 1)) (pda_cons (pd_ix ixd_seq (pd_var 3 (pv 3)) (pd_var 11 (pv 11))) pda_nil)))) (blkOk_by (own := [("one", 12), ("late", 9), ("fee", 10)]) (by kernel_rfl)) (fun _ _ _ _ _ => (pdg_tup rfl (pdgs_cons (pdg_name 12 (pg_name nd rfl (by first | exact .inl rfl | exact .inr rfl))) (pdgs_cons (pdg_name 9 (pg_name nd rfl (by first | exact .inl rfl | exact .inr rfl))) (pdgs_cons (pdg_name 10 (pg_name nd rfl (by first | exact .inl rfl | exact .inr rfl))) pdgs_nil))) fun t ht => pg_tup rfl ht)) (fun _ _ _ _ _ => pdts_nil) (fun _ _ _ _ _ => (pd_var 12 (pv 12))))) (pds_one (pds_ret pd_bl)) pds_nil) (pds_cons (pds_set 13 (pd_bin opd_add (pd_bin opd_add (pd_slice (pd_var 4 (pv 4)) pdo_none (pdo_some (pd_var 11 (pv 11)))) (pd_lst (pda_cons (pd_var 8 (pv 8)) pda_nil))) (pd_slice (pd_var 4 (pv 4)) (pdo_some (pd_var 11 (pv 11))) pdo_none)) nd) (pds_cons (pds_if (pdt_cmp (opd_ne hr.units) (pd_toldB (k := 8) T.q_told (by rfl) TB hcode hmT huT (hr.mono (by decide)) (fun A' o' s' H' E' f' c' hrl => (pd_call (B_walk T) hrl (by first | decide | omega) (by rfl) passL (pda_cons (pd_var 1 (pv 1)) (pda_cons (pd_var 2 (pv 2)) (pda_cons (pd_var 13 (pv 13)) pda_nil))))) (LamX.lamS_by (by kernel_rfl)) rfl (fun _ _ _ _ _ => by rfl)) (pd_tup (pda_cons pd_str (pda_cons (pd_var 11 (pv 11)) pda_nil)))) (pds_one (pds_ret pd_bl)) pds_nil) (pds_one (pds_ret (pd_cmp (opd_eq hr.units) (pd_toldB (k := 8) T.q_told (by rfl) TB hcode hmT huT (hr.mono (by decide)) (fun A' o' s' H' E' f' c' hrl => (pd_call (B_cost T) hrl (by first | decide | omega) (by rfl) passL (pda_cons (pd_var 1 (pv 1)) (pda_cons (pd_var 2 (pv 2)) (pda_cons (pd_var 13 (pv 13)) pda_nil))))) (LamX.lamS_by (by kernel_rfl)) rfl (fun _ _ _ _ _ => by rfl)) (pd_tup (pda_cons pd_str (pda_cons (pd_var 11 (pv 11)) pda_nil)))))))))))))))
theorem sc__law_cluster_right : FnScope ["draw", "cluster", "every", "turn", "able", "wild", "size", "placing", "step", "late", "fee"] ["draw", "cluster"] (defScope s__law_cluster_right) := ⟨rfl, rfl, rfl, by decide +kernel, rfl, by decide +kernel, by decide +kernel⟩
theorem B__law_cluster_right (T : Facts P w K mg base tbs A) : FnB P w K mg base tbs "_law_cluster_right" 12 2 (F__law_cluster_right A) := by
  obtain ⟨f, fd, h1, h2, h3⟩ := T.f__law_cluster_right.ex
  have nd := (sc__law_cluster_right).nd
  exact fnb_of (k := 11) (g := g__law_cluster_right A) h1 sc__law_cluster_right h2 h3 (by decide) fun cdv Ar outer s H E hr =>
    (pds_cons (pds_set 2 (pd_call (B__law_every T) hr (by first | decide | omega) (by rfl) passE (pda_cons (pd_var 1 (pv 1)) pda_nil)) nd) (pds_cons (pds_if (pdt_cmp (opd_ne hr.units) (pd_call (B_placings T) hr (by first | decide | omega) (by rfl) passE (pda_cons (pd_var 1 (pv 1)) pda_nil)) (pd_var 2 (pv 2))) (pds_one (pds_ret pd_bl)) pds_nil) (pds_cons (pds_for (passes_of rfl) rfl (pdi_range1 (by rfl) T.m_range (pda_cons pd_int pda_nil)) (pdg_name 3 (pg_name nd rfl (by first | exact .inl rfl | exact .inr rfl))) (pds_cons (pds_set 4 (pd_bin opd_add (pd_call (B__law_choices T) hr (by first | decide | omega) (by rfl) passE (pda_cons (pd_var 1 (pv 1)) pda_nil)) (pd_lst (pda_cons (pd_tup pda_nil) (pda_cons (pd_tup (pda_cons pd_int pda_nil)) (pda_cons (pd_tup (pda_cons pd_int (pda_cons pd_int pda_nil))) pda_nil))))) nd) (pds_cons (pds_set 5 (pd_callT cd_tuple (by rfl) T.m_tuple bt_tuple (pda_cons (pd_lc rfl nd (pdi_seq (pd_prop T.p_sizes hr (by first | decide | omega) (pd_var 1 (pv 1)))) (blkOk_by (own := [("size", 6)]) (by kernel_rfl)) (fun _ _ _ _ _ => (pdg_name 6 (pg_name nd rfl (by first | exact .inl rfl | exact .inr rfl)))) (fun _ _ _ _ _ => pdts_nil) (fun _ _ _ _ _ => (pd_call (B__law_pick T) hr (by first | decide | omega) (by rfl) passB (pda_own 0 (pv 0) (pda_cons (pd_var 4 (pv 4)) pda_nil))))) pda_nil)) nd) (pds_one (pds_if (pdt_cmp (opd_ne hr.units) (pd_call (B_is_placing T) hr (by first | decide | omega) (by rfl) passE (pda_cons (pd_var 1 (pv 1)) (pda_cons (pd_var 5 (pv 5)) pda_nil))) (pd_cmp (opd_in (hu65 hr)) (pd_var 5 (pv 5)) (pd_var 2 (pv 2)))) (pds_one (pds_ret pd_bl)) pds_nil))))) (pds_cons (pds_if (pdt_cmp (opd_eq hr.units) (pd_var 2 (pv 2)) (pd_lst pda_nil)) (pds_one (pds_ret pd_bl)) pds_nil) (pds_cons (pds_for (passes_of rfl) rfl (pdi_range1 (by rfl) T.m_range (pda_cons pd_int pda_nil)) (pdg_name 3 (pg_name nd rfl (by first | exact .inl rfl | exact .inr rfl))) (pds_cons (pds_set 7 (pd_call (B__law_pick T) hr (by first | decide | omega) (by rfl) passE (pda_own 0 (pv 0) (pda_cons (pd_var 2 (pv 2)) pda_nil))) nd) (pds_cons (pds_if (pdt_cmp (opd_ne hr.units) (pd_call (B_loads T) hr (by first | decide | omega) (by rfl) passE (pda_cons (pd_var 1 (pv 1)) (pda_cons (pd_var 7 (pv 7)) pda_nil))) (pd_call (B__law_held T) hr (by first | decide | omega) (by rfl) passE (pda_cons (pd_var 1 (pv 1)) (pda_cons (pd_var 7 (pv 7)) pda_nil)))) (pds_one (pds_ret pd_bl)) pds_nil) (pds_cons (pds_set 4 (pd_lc rfl nd (pdi_seq (pd_call (B__law_moves T) hr (by first | decide | omega) (by rfl) passE (pda_cons (pd_var 1 (pv 1)) (pda_cons (pd_var 7 (pv 7)) pda_nil)))) (blkOk_by (own := [("step", 8), ("late", 9), ("fee", 10)]) (by kernel_rfl)) (fun _ _ _ _ _ => (pdg_tup rfl (pdgs_cons (pdg_name 8 (pg_name nd rfl (by first | exact .inl rfl | exact .inr rfl))) (pdgs_cons (pdg_name 9 (pg_name nd rfl (by first | exact .inl rfl | exact .inr rfl))) (pdgs_cons (pdg_name 10 (pg_name nd rfl (by first | exact .inl rfl | exact .inr rfl))) pdgs_nil))) fun t ht => pg_tup rfl ht)) (fun _ _ _ _ _ => pdts_nil) (fun _ _ _ _ _ => (pd_var 8 (pv 8)))) nd) (pds_cons (pds_if (pdt_cmp (opd_ne hr.units) (pd_call (B_steps T) hr (by first | decide | omega) (by rfl) passE (pda_cons (pd_var 1 (pv 1)) (pda_cons (pd_var 7 (pv 7)) pda_nil))) (pd_var 4 (pv 4))) (pds_one (pds_ret pd_bl)) pds_nil) (pds_cons (pds_for (passes_of rfl) rfl (pdi_seq (pd_bin opd_add (pd_var 4 (pv 4)) (pd_lst (pda_cons (pd_call (B__law_any T) hr (by first | decide | omega) (by rfl) passE (pda_own 0 (pv 0) (pda_cons (pd_var 1 (pv 1)) pda_nil))) pda_nil)))) (pdg_name 8 (pg_name nd rfl (by first | exact .inl rfl | exact .inr rfl))) (pds_one (pds_if (pdt_not (pdt_val (pd_call (B__law_step_right T) hr (by first | decide | omega) (by rfl) passE (pda_cons (pd_var 1 (pv 1)) (pda_cons (pd_var 7 (pv 7)) (pda_cons (pd_var 8 (pv 8)) pda_nil)))))) (pds_one (pds_ret pd_bl)) pds_nil))) (pds_one (pds_if (pdt_not (pdt_val (pd_call (B__law_way_right T) hr (by first | decide | omega) (by rfl) passE (pda_own 0 (pv 0) (pda_cons (pd_var 1 (pv 1)) (pda_cons (pd_var 7 (pv 7)) pda_nil)))))) (pds_one (pds_ret pd_bl)) pds_nil)))))))) (pds_one (pds_ret pd_bl)))))))
theorem sc_law : FnScope ["script", "by", "draw"] ["script"] (defScope s_law) := ⟨rfl, rfl, rfl, by decide +kernel, rfl, by decide +kernel, by decide +kernel⟩
theorem B_law (T : Facts P w K mg base tbs A) : FnB P w K mg base tbs "law" 13 1 (F_law A) := by
  obtain ⟨f, fd, h1, h2, h3⟩ := T.f_law.ex
  have nd := (sc_law).nd
  exact fnb_of (k := 12) (g := g_law A) h1 sc_law h2 h3 (by decide) fun cdv Ar outer s H E hr =>
    (pds_cons (pds_for (passes_of rfl) rfl (pdi_range3 (by rfl) T.m_range (pda_cons pd_int (pda_cons (pd_callB (cd_max2 rfl) (by rfl) T.m_max bt_max (pda_cons pd_int (pda_cons (pd_callB (cd_min2 rfl) (by rfl) T.m_min bt_min (pda_cons pd_int (pda_cons (pd_callB cd_len (by rfl) T.m_len bt_len (pda_cons (pd_var 0 (pv 0)) pda_nil)) pda_nil))) pda_nil))) (pda_cons pd_int pda_nil)))) (pdg_name 1 (pg_name nd rfl (by first | exact .inl rfl | exact .inr rfl))) (pdss_thaw 2 (pds_cons (pds_own 2 (pdn_lst (pda_cons (pd_var 0 (pv 0)) (pda_cons (pd_var 1 (pv 1)) (pda_cons pd_int pda_nil)))) nd) (pds_one (pds_if (pdt_not (pdt_val (pd_call (B__law_cluster_right T) hr (by first | decide | omega) (by rfl) passE (pda_own 2 (pv 2) (pda_cons (pd_call (B__law_cluster T) hr (by first | decide | omega) (by rfl) passE (pda_own 2 (pv 2) pda_nil)) pda_nil))))) (pds_one (pds_ret pd_bl)) pds_nil))))) (pds_one (pds_ret pd_bl)))
theorem ok_law (T : Facts P w K mg base tbs A) {f : Addr} {fd : FuncData} (h1 : Fun K "law" "law" s_law f fd) : FnOk P w K mg base (L2.CX P w) 13 f fd ["script"] (spF K tbs (F_law A)) := by
  have nd := (sc_law).nd
  exact fnok_ofC (k := 12) (g := g_law A) h1 sc_law (by decide) fun Ar outer s H E hr =>
    (pds_cons (pds_for (passes_of rfl) rfl (pdi_range3 (by rfl) T.m_range (pda_cons pd_int (pda_cons (pd_callB (cd_max2 rfl) (by rfl) T.m_max bt_max (pda_cons pd_int (pda_cons (pd_callB (cd_min2 rfl) (by rfl) T.m_min bt_min (pda_cons pd_int (pda_cons (pd_callB cd_len (by rfl) T.m_len bt_len (pda_cons (pd_var 0 (pv 0)) pda_nil)) pda_nil))) pda_nil))) (pda_cons pd_int pda_nil)))) (pdg_name 1 (pg_name nd rfl (by first | exact .inl rfl | exact .inr rfl))) (pdss_thaw 2 (pds_cons (pds_own 2 (pdn_lst (pda_cons (pd_var 0 (pv 0)) (pda_cons (pd_var 1 (pv 1)) (pda_cons pd_int pda_nil)))) nd) (pds_one (pds_if (pdt_not (pdt_val (pd_call (B__law_cluster_right T) hr (by first | decide | omega) (by rfl) passE (pda_own 2 (pv 2) (pda_cons (pd_call (B__law_cluster T) hr (by first | decide | omega) (by rfl) passE (pda_own 2 (pv 2) pda_nil)) pda_nil))))) (pds_one (pds_ret pd_bl)) pds_nil))))) (pds_one (pds_ret pd_bl)))
end
end K01
end
section
set_option Elab.async false
set_option linter.all false
set_option maxRecDepth 100000
set_option maxHeartbeats 4000000
namespace K01
open PySem PySem.Spec PyProof.Rows L2 Pd
abbrev theP : Program := PySem.Challenge.pw_shardmove_k01_whole_placings
theorem defAt_of {K : PySem.W.Frag} {h : Heap} {mg : Str → Option Value} {x : Str} {st : Stmt} {ps : List Str} {f : Addr} (X : K.In h) (G : h.Ns mainGlobals mg) (g : (He.Fa.glo x).ok K = true) (e : f = He.ga K x)
    (F : ∃ fd, FunD K x x (defArgs st) (defBody st) (defScope st) [] [] f fd) (hb : ∀ (kV doc pm : Value) (an : Option Addr) (cdv ct : Value) (us : List Value), us.length = ps.length → bindArgs (PySem.W.fnOf x x (defArgs st) (defBody st) (defScope st) .none kV doc pm an cdv ct) ⟨us, []⟩ = pure (ps.zip us)) : DefAt K mg x st ps := by
  obtain ⟨fd, F⟩ := F
  have m := He.glo_ok X G g
  rw [← e] at m
  exact ⟨f, fd, He5.fun_of F, m, F.bindsN hb⟩
/-- a def with lambdas: its code object and that one's table -/
theorem defTab_of {K : PySem.W.Frag} {h : Heap} {mg : Str → Option Value} {base : Heap} {tbs : List (Addr × Str)} {x q : Str} {st : Stmt} {ps : List Str} (X : K.In h) (G : h.Ns mainGlobals mg) (g : (He.Fa.glo x).ok K = true)
    (F : ∃ fd, FunD K x x (defArgs st) (defBody st) (defScope st) [] [] (He.fAd K (x, none)) fd) (hb : ∀ (kV doc pm : Value) (an : Option Addr) (cdv ct : Value) (us : List Value), us.length = ps.length → bindArgs (PySem.W.fnOf x x (defArgs st) (defBody st) (defScope st) .none kV doc pm an cdv ct) ⟨us, []⟩ = pure (ps.zip us))
    (tb : LamX.TabB base mg (He.cT K (x, none)).1 (He.cT K (x, none)).2) (hm : ((He.cT K (x, none)).2, q) ∈ tbs) (hu : ∀ p ∈ tbs, p.1 = (He.cT K (x, none)).2 → p.2 = q) : DefTab K mg base tbs x st ps q := by
  obtain ⟨fd, F⟩ := F
  have m := He.glo_ok X G g
  have B := F.bindsN hb
  have Fn := He5.fun_of F
  obtain ⟨oc, od, dV, kV, doc, pm, an, cdv, ct, osl, e, lk, hcd, _, _⟩ := F.ex
  subst e
  obtain ⟨cc, rfl⟩ := He.codeIn_ref hcd
  have ec : He.codeOf K (x, none) = cc := He.codeOf_eq lk rfl
  have e1 : (He.cT K (x, none)).1 = cc := ec
  rw [e1] at tb
  exact ⟨_, _, cc, _, Fn, m, B, rfl, tb, hm, hu⟩
section
variable {K : PySem.W.Frag} {h : Heap} {mg : Str → Option Value} {w : World} {base : Heap}
abbrev adsOf (K : PySem.W.Frag) : Ads := ⟨He.ga K "Cluster", He.ga K "BadStep", He.ga K "BadSteps"⟩
abbrev tbsOf (K : PySem.W.Frag) : List (Addr × Str) := [((He.cT K ("_law_step_right", none)).2, ("_law_step_right" ++ ".<locals>.") ++ "<lambda>"), ((He.cT K ("_law_way_right", none)).2, ("_law_way_right" ++ ".<locals>.") ++ "<lambda>")]
abbrev csOf (K : PySem.W.Frag) : List (Addr × Addr) := [He.cT K ("_law_step_right", none), He.cT K ("_law_way_right", none)]
abbrev Seen (w : World) (h : Heap) (K : PySem.W.Frag) : Prop := He.SaysX K01h.fa K01h.fn [] K01h.tfK K01h.exK w h K
theorem ex_split (c : Seen w h K) : (propB K (He.ga K "Cluster") "rooms" "Cluster.rooms" = true ∧ propB K (He.ga K "Cluster") "sizes" "Cluster.sizes" = true ∧ propB K (He.ga K "Cluster") "zones" "Cluster.zones" = true ∧ propB K (He.ga K "Cluster") "far" "Cluster.far" = true ∧ propB K (He.ga K "Cluster") "alive" "Cluster.alive" = true ∧ propB K (He.ga K "Cluster") "apart" "Cluster.apart" = true ∧ K01h.clsKB K (He.ga K "Cluster") = true ∧ supB theP K (He.ga K "BadSteps") "index" "BadSteps.__init__" = true ∧ xfB K (He.ga K "BadSteps") = true ∧ decide ((He.cT K ("_law_step_right", none)).2 ≠ (He.cT K ("_law_way_right", none)).2) = true) := by
  have e := c.more
  unfold K01h.exK at e
  simpa only [Bool.and_eq_true] using e
theorem pr_rooms (c : Seen w h K) (ef : K01h.exFns K = K01h.exVals) : PropD theP w K mg base (He.ga K "Cluster") "rooms" "_rooms" 1 := by
  have hp : propB K (He.ga K "Cluster") "rooms" "Cluster.rooms" = true := by obtain ⟨h0, h1, h2, h3, h4, h5, h6, h7, h8, h9⟩ := ex_split c; exact h0
  have e := congrArg (fun l => l[0]?) ef
  have e2 := Option.some.inj (show some (fnAt K (getterAt K (He.ga K "Cluster") "rooms")) = some (some (("rooms" : Str), ("Cluster.rooms" : Str), defArgs (K01h.methK 12 2), FuncBody.stmts (defBody (K01h.methK 12 2)), defScope (K01h.methK 12 2), mainGlobals, ([] : List Str), builtinsNs)) from e)
  exact propD_of hp e2 ⟨rfl, rfl, rfl, by decide +kernel, rfl, by decide +kernel, by decide +kernel⟩ rfl (He.cls_ok (c.t.d.fact 72 (f := .cls "Cluster") (by rfl))) (He.noat_ok (c.t.d.fact 74 (f := .noat "Cluster" "_rooms") (by rfl))) fun _ _ _ _ _ _ us hl => match us, hl with | [_], _ => by rfl
theorem pr_sizes (c : Seen w h K) (ef : K01h.exFns K = K01h.exVals) : PropD theP w K mg base (He.ga K "Cluster") "sizes" "_sizes" 1 := by
  have hp : propB K (He.ga K "Cluster") "sizes" "Cluster.sizes" = true := by obtain ⟨h0, h1, h2, h3, h4, h5, h6, h7, h8, h9⟩ := ex_split c; exact h1
  have e := congrArg (fun l => l[1]?) ef
  have e2 := Option.some.inj (show some (fnAt K (getterAt K (He.ga K "Cluster") "sizes")) = some (some (("sizes" : Str), ("Cluster.sizes" : Str), defArgs (K01h.methK 12 3), FuncBody.stmts (defBody (K01h.methK 12 3)), defScope (K01h.methK 12 3), mainGlobals, ([] : List Str), builtinsNs)) from e)
  exact propD_of hp e2 ⟨rfl, rfl, rfl, by decide +kernel, rfl, by decide +kernel, by decide +kernel⟩ rfl (He.cls_ok (c.t.d.fact 72 (f := .cls "Cluster") (by rfl))) (He.noat_ok (c.t.d.fact 75 (f := .noat "Cluster" "_sizes") (by rfl))) fun _ _ _ _ _ _ us hl => match us, hl with | [_], _ => by rfl
theorem pr_zones (c : Seen w h K) (ef : K01h.exFns K = K01h.exVals) : PropD theP w K mg base (He.ga K "Cluster") "zones" "_zones" 1 := by
  have hp : propB K (He.ga K "Cluster") "zones" "Cluster.zones" = true := by obtain ⟨h0, h1, h2, h3, h4, h5, h6, h7, h8, h9⟩ := ex_split c; exact h2
  have e := congrArg (fun l => l[2]?) ef
  have e2 := Option.some.inj (show some (fnAt K (getterAt K (He.ga K "Cluster") "zones")) = some (some (("zones" : Str), ("Cluster.zones" : Str), defArgs (K01h.methK 12 4), FuncBody.stmts (defBody (K01h.methK 12 4)), defScope (K01h.methK 12 4), mainGlobals, ([] : List Str), builtinsNs)) from e)
  exact propD_of hp e2 ⟨rfl, rfl, rfl, by decide +kernel, rfl, by decide +kernel, by decide +kernel⟩ rfl (He.cls_ok (c.t.d.fact 72 (f := .cls "Cluster") (by rfl))) (He.noat_ok (c.t.d.fact 76 (f := .noat "Cluster" "_zones") (by rfl))) fun _ _ _ _ _ _ us hl => match us, hl with | [_], _ => by rfl
theorem pr_far (c : Seen w h K) (ef : K01h.exFns K = K01h.exVals) : PropD theP w K mg base (He.ga K "Cluster") "far" "_far" 1 := by
  have hp : propB K (He.ga K "Cluster") "far" "Cluster.far" = true := by obtain ⟨h0, h1, h2, h3, h4, h5, h6, h7, h8, h9⟩ := ex_split c; exact h3
  have e := congrArg (fun l => l[3]?) ef
  have e2 := Option.some.inj (show some (fnAt K (getterAt K (He.ga K "Cluster") "far")) = some (some (("far" : Str), ("Cluster.far" : Str), defArgs (K01h.methK 12 5), FuncBody.stmts (defBody (K01h.methK 12 5)), defScope (K01h.methK 12 5), mainGlobals, ([] : List Str), builtinsNs)) from e)
  exact propD_of hp e2 ⟨rfl, rfl, rfl, by decide +kernel, rfl, by decide +kernel, by decide +kernel⟩ rfl (He.cls_ok (c.t.d.fact 72 (f := .cls "Cluster") (by rfl))) (He.noat_ok (c.t.d.fact 77 (f := .noat "Cluster" "_far") (by rfl))) fun _ _ _ _ _ _ us hl => match us, hl with | [_], _ => by rfl
theorem pr_alive (c : Seen w h K) (ef : K01h.exFns K = K01h.exVals) : PropD theP w K mg base (He.ga K "Cluster") "alive" "_alive" 1 := by
  have hp : propB K (He.ga K "Cluster") "alive" "Cluster.alive" = true := by obtain ⟨h0, h1, h2, h3, h4, h5, h6, h7, h8, h9⟩ := ex_split c; exact h4
  have e := congrArg (fun l => l[4]?) ef
  have e2 := Option.some.inj (show some (fnAt K (getterAt K (He.ga K "Cluster") "alive")) = some (some (("alive" : Str), ("Cluster.alive" : Str), defArgs (K01h.methK 12 6), FuncBody.stmts (defBody (K01h.methK 12 6)), defScope (K01h.methK 12 6), mainGlobals, ([] : List Str), builtinsNs)) from e)
  exact propD_of hp e2 ⟨rfl, rfl, rfl, by decide +kernel, rfl, by decide +kernel, by decide +kernel⟩ rfl (He.cls_ok (c.t.d.fact 72 (f := .cls "Cluster") (by rfl))) (He.noat_ok (c.t.d.fact 78 (f := .noat "Cluster" "_alive") (by rfl))) fun _ _ _ _ _ _ us hl => match us, hl with | [_], _ => by rfl
theorem pr_apart (c : Seen w h K) (ef : K01h.exFns K = K01h.exVals) : PropD theP w K mg base (He.ga K "Cluster") "apart" "_apart" 1 := by
  have hp : propB K (He.ga K "Cluster") "apart" "Cluster.apart" = true := by obtain ⟨h0, h1, h2, h3, h4, h5, h6, h7, h8, h9⟩ := ex_split c; exact h5
  have e := congrArg (fun l => l[5]?) ef
  have e2 := Option.some.inj (show some (fnAt K (getterAt K (He.ga K "Cluster") "apart")) = some (some (("apart" : Str), ("Cluster.apart" : Str), defArgs (K01h.methK 12 7), FuncBody.stmts (defBody (K01h.methK 12 7)), defScope (K01h.methK 12 7), mainGlobals, ([] : List Str), builtinsNs)) from e)
  exact propD_of hp e2 ⟨rfl, rfl, rfl, by decide +kernel, rfl, by decide +kernel, by decide +kernel⟩ rfl (He.cls_ok (c.t.d.fact 72 (f := .cls "Cluster") (by rfl))) (He.noat_ok (c.t.d.fact 79 (f := .noat "Cluster" "_apart") (by rfl))) fun _ _ _ _ _ _ us hl => match us, hl with | [_], _ => by rfl
theorem ra_BadSteps (X : K.In h) (G : h.Ns mainGlobals mg) (c : Seen w h K) (ef : K01h.exFns K = K01h.exVals) : RaiS theP w K mg base (He.ga K "BadSteps") "index" := by
  have hp : supB theP K (He.ga K "BadSteps") "index" "BadSteps.__init__" = true := by obtain ⟨h0, h1, h2, h3, h4, h5, h6, h7, h8, h9⟩ := ex_split c; exact h7
  have e := congrArg (fun l => l[6]?) ef
  have e2 := Option.some.inj (show some (fnAt K (initAt K (He.ga K "BadSteps"))) = some (some (("__init__" : Str), ("BadSteps.__init__" : Str), defArgs (K01h.methK 9 0), FuncBody.stmts (defBody (K01h.methK 9 0)), defScope (K01h.methK 9 0), mainGlobals, (["__class__"] : List Str), builtinsNs)) from e)
  exact raiS_of (x0 := "self") (x1 := "index") hp e2 rfl rfl rfl rfl rfl rfl rfl rfl rfl rfl (by decide +kernel) (by decide +kernel) (by decide) (by decide +kernel) (He.free_ok X G (c.t.d.fact 70 (f := .free "super") (by rfl))) (by decide) (by decide) (by decide) (by decide) (fun _ => by rfl) (fun _ => by rfl) (fun _ => by rfl)
    fun T clo kV doc pm an cdv ct us its h1 h2 => match us, h1, its, h2 with
    | [_, _], _, [_], _ => ⟨_, by rfl, by rfl⟩
theorem at_is_number (X : K.In h) (G : h.Ns mainGlobals mg) (c : Seen w h K) : DefAt K mg "is_number" (topS 1) ["value", "low", "high"] :=
  defAt_of X G (c.t.d.fact 0 (f := .glo "is_number") (by rfl)) rfl (c.t.d.def_ 0 (d := K01h.e_is_number) (by rfl)) fun _ _ _ _ _ _ us hl => match us, hl with | [_, _, _], _ => by rfl
theorem at_are_numbers (X : K.In h) (G : h.Ns mainGlobals mg) (c : Seen w h K) : DefAt K mg "are_numbers" (topS 2) ["value", "low", "high"] :=
  defAt_of X G (c.t.d.fact 1 (f := .glo "are_numbers") (by rfl)) rfl (c.t.d.def_ 1 (d := K01h.e_are_numbers) (by rfl)) fun _ _ _ _ _ _ us hl => match us, hl with | [_, _, _], _ => by rfl
theorem at_is_ascending (X : K.In h) (G : h.Ns mainGlobals mg) (c : Seen w h K) : DefAt K mg "is_ascending" (topS 3) ["value", "count"] :=
  defAt_of X G (c.t.d.fact 2 (f := .glo "is_ascending") (by rfl)) rfl (c.t.d.def_ 2 (d := K01h.e_is_ascending) (by rfl)) fun _ _ _ _ _ _ us hl => match us, hl with | [_, _], _ => by rfl
theorem at_check_cluster (X : K.In h) (G : h.Ns mainGlobals mg) (c : Seen w h K) : DefAt K mg "check_cluster" (topS 13) ["value"] :=
  defAt_of X G (c.t.d.fact 3 (f := .glo "check_cluster") (by rfl)) rfl (c.t.d.def_ 3 (d := K01h.e_check_cluster) (by rfl)) fun _ _ _ _ _ _ us hl => match us, hl with | [_], _ => by rfl
theorem at_is_placing (X : K.In h) (G : h.Ns mainGlobals mg) (c : Seen w h K) : DefAt K mg "is_placing" (topS 16) ["cluster", "value"] :=
  defAt_of X G (c.t.d.fact 4 (f := .glo "is_placing") (by rfl)) rfl (c.t.d.def_ 4 (d := K01h.e_is_placing) (by rfl)) fun _ _ _ _ _ _ us hl => match us, hl with | [_, _], _ => by rfl
theorem at_placings (X : K.In h) (G : h.Ns mainGlobals mg) (c : Seen w h K) : DefAt K mg "placings" (topS 17) ["cluster"] :=
  defAt_of X G (c.t.d.fact 5 (f := .glo "placings") (by rfl)) rfl (c.t.d.def_ 5 (d := K01h.e_placings) (by rfl)) fun _ _ _ _ _ _ us hl => match us, hl with | [_], _ => by rfl
theorem at_loads (X : K.In h) (G : h.Ns mainGlobals mg) (c : Seen w h K) : DefAt K mg "loads" (topS 18) ["cluster", "placing"] :=
  defAt_of X G (c.t.d.fact 6 (f := .glo "loads") (by rfl)) rfl (c.t.d.def_ 6 (d := K01h.e_loads) (by rfl)) fun _ _ _ _ _ _ us hl => match us, hl with | [_, _], _ => by rfl
theorem at_steps (X : K.In h) (G : h.Ns mainGlobals mg) (c : Seen w h K) : DefAt K mg "steps" (topS 19) ["cluster", "placing"] :=
  defAt_of X G (c.t.d.fact 7 (f := .glo "steps") (by rfl)) rfl (c.t.d.def_ 7 (d := K01h.e_steps) (by rfl)) fun _ _ _ _ _ _ us hl => match us, hl with | [_, _], _ => by rfl
theorem at_after (X : K.In h) (G : h.Ns mainGlobals mg) (c : Seen w h K) : DefAt K mg "after" (topS 20) ["cluster", "placing", "step"] :=
  defAt_of X G (c.t.d.fact 8 (f := .glo "after") (by rfl)) rfl (c.t.d.def_ 8 (d := K01h.e_after) (by rfl)) fun _ _ _ _ _ _ us hl => match us, hl with | [_, _, _], _ => by rfl
theorem at_price (X : K.In h) (G : h.Ns mainGlobals mg) (c : Seen w h K) : DefAt K mg "price" (topS 21) ["cluster", "placing", "step"] :=
  defAt_of X G (c.t.d.fact 9 (f := .glo "price") (by rfl)) rfl (c.t.d.def_ 9 (d := K01h.e_price) (by rfl)) fun _ _ _ _ _ _ us hl => match us, hl with | [_, _, _], _ => by rfl
theorem at_walk (X : K.In h) (G : h.Ns mainGlobals mg) (c : Seen w h K) : DefAt K mg "walk" (topS 22) ["cluster", "placing", "way"] :=
  defAt_of X G (c.t.d.fact 10 (f := .glo "walk") (by rfl)) rfl (c.t.d.def_ 10 (d := K01h.e_walk) (by rfl)) fun _ _ _ _ _ _ us hl => match us, hl with | [_, _, _], _ => by rfl
theorem at_cost (X : K.In h) (G : h.Ns mainGlobals mg) (c : Seen w h K) : DefAt K mg "cost" (topS 23) ["cluster", "placing", "way"] :=
  defAt_of X G (c.t.d.fact 11 (f := .glo "cost") (by rfl)) rfl (c.t.d.def_ 11 (d := K01h.e_cost) (by rfl)) fun _ _ _ _ _ _ us hl => match us, hl with | [_, _, _], _ => by rfl
theorem at_check_placing (X : K.In h) (G : h.Ns mainGlobals mg) (c : Seen w h K) : DefAt K mg "check_placing" (topS 24) ["cluster", "value"] :=
  defAt_of X G (c.t.d.fact 12 (f := .glo "check_placing") (by rfl)) rfl (c.t.d.def_ 12 (d := K01h.e_check_placing) (by rfl)) fun _ _ _ _ _ _ us hl => match us, hl with | [_, _], _ => by rfl
theorem at_held (X : K.In h) (G : h.Ns mainGlobals mg) (c : Seen w h K) : DefAt K mg "held" (topS 25) ["cluster", "placing"] :=
  defAt_of X G (c.t.d.fact 13 (f := .glo "held") (by rfl)) rfl (c.t.d.def_ 13 (d := K01h.e_held) (by rfl)) fun _ _ _ _ _ _ us hl => match us, hl with | [_, _], _ => by rfl
theorem at_fits (X : K.In h) (G : h.Ns mainGlobals mg) (c : Seen w h K) : DefAt K mg "fits" (topS 26) ["cluster", "placing"] :=
  defAt_of X G (c.t.d.fact 14 (f := .glo "fits") (by rfl)) rfl (c.t.d.def_ 14 (d := K01h.e_fits) (by rfl)) fun _ _ _ _ _ _ us hl => match us, hl with | [_, _], _ => by rfl
theorem at_may_lie (X : K.In h) (G : h.Ns mainGlobals mg) (c : Seen w h K) : DefAt K mg "may_lie" (topS 27) ["cluster", "machines"] :=
  defAt_of X G (c.t.d.fact 15 (f := .glo "may_lie") (by rfl)) rfl (c.t.d.def_ 15 (d := K01h.e_may_lie) (by rfl)) fun _ _ _ _ _ _ us hl => match us, hl with | [_, _], _ => by rfl
theorem at_moves (X : K.In h) (G : h.Ns mainGlobals mg) (c : Seen w h K) : DefAt K mg "moves" (topS 28) ["cluster", "placing"] :=
  defAt_of X G (c.t.d.fact 16 (f := .glo "moves") (by rfl)) rfl (c.t.d.def_ 16 (d := K01h.e_moves) (by rfl)) fun _ _ _ _ _ _ us hl => match us, hl with | [_, _], _ => by rfl
theorem at_placing_after (X : K.In h) (G : h.Ns mainGlobals mg) (c : Seen w h K) : DefAt K mg "placing_after" (topS 29) ["cluster", "placing", "step"] :=
  defAt_of X G (c.t.d.fact 17 (f := .glo "placing_after") (by rfl)) rfl (c.t.d.def_ 17 (d := K01h.e_placing_after) (by rfl)) fun _ _ _ _ _ _ us hl => match us, hl with | [_, _, _], _ => by rfl
theorem at_step_price (X : K.In h) (G : h.Ns mainGlobals mg) (c : Seen w h K) : DefAt K mg "step_price" (topS 30) ["cluster", "step"] :=
  defAt_of X G (c.t.d.fact 18 (f := .glo "step_price") (by rfl)) rfl (c.t.d.def_ 18 (d := K01h.e_step_price) (by rfl)) fun _ _ _ _ _ _ us hl => match us, hl with | [_, _], _ => by rfl
theorem at_way_price (X : K.In h) (G : h.Ns mainGlobals mg) (c : Seen w h K) : DefAt K mg "way_price" (topS 31) ["cluster", "way"] :=
  defAt_of X G (c.t.d.fact 19 (f := .glo "way_price") (by rfl)) rfl (c.t.d.def_ 19 (d := K01h.e_way_price) (by rfl)) fun _ _ _ _ _ _ us hl => match us, hl with | [_, _], _ => by rfl
theorem at_has_form (X : K.In h) (G : h.Ns mainGlobals mg) (c : Seen w h K) : DefAt K mg "has_form" (topS 32) ["cluster", "value"] :=
  defAt_of X G (c.t.d.fact 20 (f := .glo "has_form") (by rfl)) rfl (c.t.d.def_ 20 (d := K01h.e_has_form) (by rfl)) fun _ _ _ _ _ _ us hl => match us, hl with | [_, _], _ => by rfl
theorem at_subsets (X : K.In h) (G : h.Ns mainGlobals mg) (c : Seen w h K) : DefAt K mg "subsets" (topS 33) ["count"] :=
  defAt_of X G (c.t.d.fact 21 (f := .glo "subsets") (by rfl)) rfl (c.t.d.def_ 21 (d := K01h.e_subsets) (by rfl)) fun _ _ _ _ _ _ us hl => match us, hl with | [_], _ => by rfl
theorem at__copied (X : K.In h) (G : h.Ns mainGlobals mg) (c : Seen w h K) : DefAt K mg "_copied" (topS 34) ["cluster", "placing", "sums", "shard", "target"] :=
  defAt_of X G (c.t.d.fact 22 (f := .glo "_copied") (by rfl)) rfl (c.t.d.def_ 22 (d := K01h.e__copied) (by rfl)) fun _ _ _ _ _ _ us hl => match us, hl with | [_, _, _, _, _], _ => by rfl
theorem at__dropped (X : K.In h) (G : h.Ns mainGlobals mg) (c : Seen w h K) : DefAt K mg "_dropped" (topS 35) ["cluster", "placing", "shard", "machine"] :=
  defAt_of X G (c.t.d.fact 23 (f := .glo "_dropped") (by rfl)) rfl (c.t.d.def_ 23 (d := K01h.e__dropped) (by rfl)) fun _ _ _ _ _ _ us hl => match us, hl with | [_, _, _, _], _ => by rfl
theorem at__replaced (X : K.In h) (G : h.Ns mainGlobals mg) (c : Seen w h K) : DefAt K mg "_replaced" (topS 36) ["cluster", "placing", "shard", "machines"] :=
  defAt_of X G (c.t.d.fact 24 (f := .glo "_replaced") (by rfl)) rfl (c.t.d.def_ 24 (d := K01h.e__replaced) (by rfl)) fun _ _ _ _ _ _ us hl => match us, hl with | [_, _, _, _], _ => by rfl
theorem at__choices (X : K.In h) (G : h.Ns mainGlobals mg) (c : Seen w h K) : DefAt K mg "_choices" (topS 37) ["cluster"] :=
  defAt_of X G (c.t.d.fact 25 (f := .glo "_choices") (by rfl)) rfl (c.t.d.def_ 25 (d := K01h.e__choices) (by rfl)) fun _ _ _ _ _ _ us hl => match us, hl with | [_], _ => by rfl
theorem at__collect (X : K.In h) (G : h.Ns mainGlobals mg) (c : Seen w h K) : DefAt K mg "_collect" (topS 38) ["cluster", "choices", "start", "free", "found"] :=
  defAt_of X G (c.t.d.fact 26 (f := .glo "_collect") (by rfl)) rfl (c.t.d.def_ 26 (d := K01h.e__collect) (by rfl)) fun _ _ _ _ _ _ us hl => match us, hl with | [_, _, _, _, _], _ => by rfl
theorem at__law_cell_at (X : K.In h) (G : h.Ns mainGlobals mg) (c : Seen w h K) : DefAt K mg "_law_cell_at" (topS 40) ["script", "k"] :=
  defAt_of X G (c.t.d.fact 27 (f := .glo "_law_cell_at") (by rfl)) rfl (c.t.d.def_ 27 (d := K01h.e__law_cell_at) (by rfl)) fun _ _ _ _ _ _ us hl => match us, hl with | [_, _], _ => by rfl
theorem at__law_draw (X : K.In h) (G : h.Ns mainGlobals mg) (c : Seen w h K) : DefAt K mg "_law_draw" (topS 41) ["cell", "k", "bound"] :=
  defAt_of X G (c.t.d.fact 28 (f := .glo "_law_draw") (by rfl)) rfl (c.t.d.def_ 28 (d := K01h.e__law_draw) (by rfl)) fun _ _ _ _ _ _ us hl => match us, hl with | [_, _, _], _ => by rfl
theorem at__law_number (X : K.In h) (G : h.Ns mainGlobals mg) (c : Seen w h K) : DefAt K mg "_law_number" (topS 42) ["cell", "k", "bound"] :=
  defAt_of X G (c.t.d.fact 29 (f := .glo "_law_number") (by rfl)) rfl (c.t.d.def_ 29 (d := K01h.e__law_number) (by rfl)) fun _ _ _ _ _ _ us hl => match us, hl with | [_, _, _], _ => by rfl
theorem at__law_next (X : K.In h) (G : h.Ns mainGlobals mg) (c : Seen w h K) : DefAt K mg "_law_next" (topS 43) ["draw", "bound"] :=
  defAt_of X G (c.t.d.fact 30 (f := .glo "_law_next") (by rfl)) rfl (c.t.d.def_ 30 (d := K01h.e__law_next) (by rfl)) fun _ _ _ _ _ _ us hl => match us, hl with | [_, _], _ => by rfl
theorem at__law_pick (X : K.In h) (G : h.Ns mainGlobals mg) (c : Seen w h K) : DefAt K mg "_law_pick" (topS 44) ["draw", "things"] :=
  defAt_of X G (c.t.d.fact 31 (f := .glo "_law_pick") (by rfl)) rfl (c.t.d.def_ 31 (d := K01h.e__law_pick) (by rfl)) fun _ _ _ _ _ _ us hl => match us, hl with | [_, _], _ => by rfl
theorem at__law_cluster (X : K.In h) (G : h.Ns mainGlobals mg) (c : Seen w h K) : DefAt K mg "_law_cluster" (topS 45) ["draw"] :=
  defAt_of X G (c.t.d.fact 32 (f := .glo "_law_cluster") (by rfl)) rfl (c.t.d.def_ 32 (d := K01h.e__law_cluster) (by rfl)) fun _ _ _ _ _ _ us hl => match us, hl with | [_], _ => by rfl
theorem at__law_choices (X : K.In h) (G : h.Ns mainGlobals mg) (c : Seen w h K) : DefAt K mg "_law_choices" (topS 46) ["cluster"] :=
  defAt_of X G (c.t.d.fact 33 (f := .glo "_law_choices") (by rfl)) rfl (c.t.d.def_ 33 (d := K01h.e__law_choices) (by rfl)) fun _ _ _ _ _ _ us hl => match us, hl with | [_], _ => by rfl
theorem at__law_spread (X : K.In h) (G : h.Ns mainGlobals mg) (c : Seen w h K) : DefAt K mg "_law_spread" (topS 47) ["cluster", "some"] :=
  defAt_of X G (c.t.d.fact 34 (f := .glo "_law_spread") (by rfl)) rfl (c.t.d.def_ 34 (d := K01h.e__law_spread) (by rfl)) fun _ _ _ _ _ _ us hl => match us, hl with | [_, _], _ => by rfl
theorem at__law_held (X : K.In h) (G : h.Ns mainGlobals mg) (c : Seen w h K) : DefAt K mg "_law_held" (topS 48) ["cluster", "placing"] :=
  defAt_of X G (c.t.d.fact 35 (f := .glo "_law_held") (by rfl)) rfl (c.t.d.def_ 35 (d := K01h.e__law_held) (by rfl)) fun _ _ _ _ _ _ us hl => match us, hl with | [_, _], _ => by rfl
theorem at__law_fits (X : K.In h) (G : h.Ns mainGlobals mg) (c : Seen w h K) : DefAt K mg "_law_fits" (topS 49) ["cluster", "placing"] :=
  defAt_of X G (c.t.d.fact 36 (f := .glo "_law_fits") (by rfl)) rfl (c.t.d.def_ 36 (d := K01h.e__law_fits) (by rfl)) fun _ _ _ _ _ _ us hl => match us, hl with | [_, _], _ => by rfl
theorem at__law_every (X : K.In h) (G : h.Ns mainGlobals mg) (c : Seen w h K) : DefAt K mg "_law_every" (topS 50) ["cluster"] :=
  defAt_of X G (c.t.d.fact 37 (f := .glo "_law_every") (by rfl)) rfl (c.t.d.def_ 37 (d := K01h.e__law_every) (by rfl)) fun _ _ _ _ _ _ us hl => match us, hl with | [_], _ => by rfl
theorem at__law_longer (X : K.In h) (G : h.Ns mainGlobals mg) (c : Seen w h K) : DefAt K mg "_law_longer" (topS 51) ["cluster", "rows"] :=
  defAt_of X G (c.t.d.fact 38 (f := .glo "_law_longer") (by rfl)) rfl (c.t.d.def_ 38 (d := K01h.e__law_longer) (by rfl)) fun _ _ _ _ _ _ us hl => match us, hl with | [_, _], _ => by rfl
theorem at__law_with (X : K.In h) (G : h.Ns mainGlobals mg) (c : Seen w h K) : DefAt K mg "_law_with" (topS 52) ["placing", "shard", "some"] :=
  defAt_of X G (c.t.d.fact 39 (f := .glo "_law_with") (by rfl)) rfl (c.t.d.def_ 39 (d := K01h.e__law_with) (by rfl)) fun _ _ _ _ _ _ us hl => match us, hl with | [_, _, _], _ => by rfl
theorem at__law_moves (X : K.In h) (G : h.Ns mainGlobals mg) (c : Seen w h K) : DefAt K mg "_law_moves" (topS 53) ["cluster", "placing"] :=
  defAt_of X G (c.t.d.fact 40 (f := .glo "_law_moves") (by rfl)) rfl (c.t.d.def_ 40 (d := K01h.e__law_moves) (by rfl)) fun _ _ _ _ _ _ us hl => match us, hl with | [_, _], _ => by rfl
theorem at__law_any (X : K.In h) (G : h.Ns mainGlobals mg) (c : Seen w h K) : DefAt K mg "_law_any" (topS 54) ["draw", "cluster"] :=
  defAt_of X G (c.t.d.fact 41 (f := .glo "_law_any") (by rfl)) rfl (c.t.d.def_ 41 (d := K01h.e__law_any) (by rfl)) fun _ _ _ _ _ _ us hl => match us, hl with | [_, _], _ => by rfl
theorem at__law_cluster_right (X : K.In h) (G : h.Ns mainGlobals mg) (c : Seen w h K) : DefAt K mg "_law_cluster_right" (topS 58) ["draw", "cluster"] :=
  defAt_of X G (c.t.d.fact 45 (f := .glo "_law_cluster_right") (by rfl)) rfl (c.t.d.def_ 45 (d := K01h.e__law_cluster_right) (by rfl)) fun _ _ _ _ _ _ us hl => match us, hl with | [_, _], _ => by rfl
theorem at_law (X : K.In h) (G : h.Ns mainGlobals mg) (c : Seen w h K) : DefAt K mg "law" (topS 59) ["script"] :=
  defAt_of X G (c.t.d.fact 46 (f := .glo "law") (by rfl)) rfl (c.t.d.def_ 46 (d := K01h.e_law) (by rfl)) fun _ _ _ _ _ _ us hl => match us, hl with | [_], _ => by rfl
theorem told_F (X : K.In h) (G : h.Ns mainGlobals mg) (c : Seen w h K) : ToldF K mg (He.ga K "BadStep") (He.ga K "BadSteps") "_law_told" "what" "word" "error" (defBody (topS 55)) (defScope (topS 55)) := by
  obtain ⟨fd, F⟩ := c.t.d.def_ 42 (d := K01h.e__law_told) (by rfl)
  have B := F.bindsN (ps := ["what", "word"]) fun _ _ _ _ _ _ us hl => match us, hl with | [_, _], _ => by rfl
  have kp := F.kp
  obtain ⟨oc, od, dV, kV, doc, pm, an, cdv, ct, osl, e, lk, hcd, _, _⟩ := F.ex
  subst e
  have xf : xfB K (He.ga K "BadSteps") = true := by obtain ⟨h0, h1, h2, h3, h4, h5, h6, h7, h8, h9⟩ := ex_split c; exact h8
  have sp : supB theP K (He.ga K "BadSteps") "index" "BadSteps.__init__" = true := by obtain ⟨h0, h1, h2, h3, h4, h5, h6, h7, h8, h9⟩ := ex_split c; exact h7
  exact ⟨⟨_, _, dV, kV, doc, pm, cdv, ct, oc, an, od, osl, He.glo_ok X G (c.t.d.fact 42 (f := .glo "_law_told") (by rfl)), kp, lk, hcd, B⟩,
    ⟨"BadStep", "BadSteps", _, _, _, _, _, _, _, _, _, _, _, _, _, _, _, _, _, _, _, _, rfl, rfl, He.glo_ok X G (c.t.d.fact 50 (f := .glo "BadStep") (by rfl)), by decide, rfl, He.glo_ok X G (c.t.d.fact 51 (f := .glo "BadSteps") (by rfl)), by decide⟩,
    ⟨rfl, rfl, rfl, by decide +kernel, rfl, by decide +kernel, by decide +kernel⟩, rfl, rfl, rfl, ⟨He.exm_ok (c.t.d.fact 81 (f := .exm "BadStep" "BadStep" true) (by rfl)), He.exm_ok (c.t.d.fact 82 (f := .exm "BadSteps" "BadStep" false) (by rfl)), He.exm_ok (c.t.d.fact 83 (f := .exm "BadSteps" "BadSteps" true) (by rfl))⟩, xfB_ok xf, supB_no sp⟩
theorem init_F (X : K.In h) (c : Seen w h K) {tbs : List (Addr × Str)} : InitAt K tbs (He.ga K "Cluster") := by
  obtain ⟨fd, F⟩ := c.t.d.def_ 47 (d := K01h.e_init) (by rfl)
  refine ⟨He.cls_ok (c.t.d.fact 72 (f := .cls "Cluster") (by rfl)), ⟨_, fd, He.mkr_ok (c.t.d.fact 73 (f := .mkr "Cluster") (by rfl)), F⟩, fun f hf => ?_⟩
  simp only [List.mem_cons, List.not_mem_nil, or_false] at hf
  rcases hf with rfl | rfl | rfl | rfl | rfl | rfl
  · exact He.noat_ok (c.t.d.fact 74 (f := .noat "Cluster" "_rooms") (by rfl))
  · exact He.noat_ok (c.t.d.fact 75 (f := .noat "Cluster" "_sizes") (by rfl))
  · exact He.noat_ok (c.t.d.fact 76 (f := .noat "Cluster" "_zones") (by rfl))
  · exact He.noat_ok (c.t.d.fact 77 (f := .noat "Cluster" "_far") (by rfl))
  · exact He.noat_ok (c.t.d.fact 78 (f := .noat "Cluster" "_alive") (by rfl))
  · exact He.noat_ok (c.t.d.fact 79 (f := .noat "Cluster" "_apart") (by rfl))
theorem facts_of (X : K.In h) (G : h.Ns mainGlobals mg) (c : Seen w h K) (ef : K01h.exFns K = K01h.exVals) (tb : ∀ p ∈ csOf K, LamX.TabB base mg p.1 p.2) : Facts theP w K mg base (tbsOf K) (adsOf K) := by
  obtain ⟨h0, h1, h2, h3, h4, h5, h6, h7, h8, h9⟩ := ex_split c
  have ne := of_decide_eq_true h9
  have hc : K01h.clsKB K (He.ga K "Cluster") = true := h6
  unfold K01h.clsKB at hc
  simp only [Bool.and_eq_true, decide_eq_true_eq] at hc
  exact {
    m_all := He.free_ok X G (c.t.d.fact 56 (f := .free "all") (by rfl))
    m_bool := He.free_ok X G (c.t.d.fact 61 (f := .free "bool") (by rfl))
    m_dict := He.free_ok X G (c.t.d.fact 65 (f := .free "dict") (by rfl))
    m_enumerate := He.free_ok X G (c.t.d.fact 67 (f := .free "enumerate") (by rfl))
    m_int := He.free_ok X G (c.t.d.fact 60 (f := .free "int") (by rfl))
    m_isinstance := He.free_ok X G (c.t.d.fact 69 (f := .free "isinstance") (by rfl))
    m_len := He.free_ok X G (c.t.d.fact 54 (f := .free "len") (by rfl))
    m_list := He.free_ok X G (c.t.d.fact 63 (f := .free "list") (by rfl))
    m_max := He.free_ok X G (c.t.d.fact 58 (f := .free "max") (by rfl))
    m_min := He.free_ok X G (c.t.d.fact 57 (f := .free "min") (by rfl))
    m_range := He.free_ok X G (c.t.d.fact 66 (f := .free "range") (by rfl))
    m_sorted := He.free_ok X G (c.t.d.fact 59 (f := .free "sorted") (by rfl))
    m_str := He.free_ok X G (c.t.d.fact 62 (f := .free "str") (by rfl))
    m_sum := He.free_ok X G (c.t.d.fact 55 (f := .free "sum") (by rfl))
    m_tuple := He.free_ok X G (c.t.d.fact 64 (f := .free "tuple") (by rfl))
    m_zip := He.free_ok X G (c.t.d.fact 68 (f := .free "zip") (by rfl))
    c_MOST_PLACINGS := He.int_ok X G (c.t.d.fact 71 (f := .int "MOST_PLACINGS" 2000) (by rfl))
    p_rooms := pr_rooms c ef
    p_sizes := pr_sizes c ef
    p_zones := pr_zones c ef
    p_far := pr_far c ef
    p_alive := pr_alive c ef
    p_apart := pr_apart c ef
    y_BadSteps := ra_BadSteps X G c ef
    q_told := told_F X G c
    n_Cluster := init_F X c
    z_Cluster := ⟨He.cls_ok (c.t.d.fact 72 (f := .cls "Cluster") (by rfl)), hc.1, hc.2.1, hc.2.2.1, hc.2.2.2⟩
    x_BadStep := (by obtain ⟨e1, e2, e3, e4⟩ := He.exc_ok (c.t.d.fact 80 (f := .exc "BadStep") (by rfl)); exact ⟨⟨_, _, _, _, PySem.F.excBase_ValueError, e1⟩, e2, e3, e4⟩)
    k_Cluster := He.glo_ok X G (c.t.d.fact 53 (f := .glo "Cluster") (by rfl))
    k_BadStep := He.glo_ok X G (c.t.d.fact 50 (f := .glo "BadStep") (by rfl))
    k_BadSteps := He.glo_ok X G (c.t.d.fact 51 (f := .glo "BadSteps") (by rfl))
    f_is_number := at_is_number X G c
    f_are_numbers := at_are_numbers X G c
    f_is_ascending := at_is_ascending X G c
    f_check_cluster := at_check_cluster X G c
    f_may_lie := at_may_lie X G c
    f_held := at_held X G c
    f_fits := at_fits X G c
    f_is_placing := at_is_placing X G c
    f_subsets := at_subsets X G c
    f__choices := at__choices X G c
    f__collect := at__collect X G c
    f_placings := at_placings X G c
    f_check_placing := at_check_placing X G c
    f_loads := at_loads X G c
    f__replaced := at__replaced X G c
    f__copied := at__copied X G c
    f__dropped := at__dropped X G c
    f_moves := at_moves X G c
    f_steps := at_steps X G c
    f_has_form := at_has_form X G c
    f_placing_after := at_placing_after X G c
    f_after := at_after X G c
    f_step_price := at_step_price X G c
    f_price := at_price X G c
    f_walk := at_walk X G c
    f_way_price := at_way_price X G c
    f_cost := at_cost X G c
    f__law_cell_at := at__law_cell_at X G c
    f__law_draw := at__law_draw X G c
    f__law_number := at__law_number X G c
    f__law_next := at__law_next X G c
    f__law_pick := at__law_pick X G c
    f__law_cluster := at__law_cluster X G c
    f__law_spread := at__law_spread X G c
    f__law_choices := at__law_choices X G c
    f__law_held := at__law_held X G c
    f__law_fits := at__law_fits X G c
    f__law_longer := at__law_longer X G c
    f__law_every := at__law_every X G c
    f__law_with := at__law_with X G c
    f__law_moves := at__law_moves X G c
    f__law_any := at__law_any X G c
    f__law_step_right := defTab_of X G (c.t.d.fact 43 (f := .glo "_law_step_right") (by rfl)) (c.t.d.def_ 43 (d := K01h.e__law_step_right) (by rfl)) (fun _ _ _ _ _ _ us hl => match us, hl with | [_, _, _], _ => by rfl) (tb _ (by simp)) (by simp) (fun p hp e => by
      rcases List.mem_cons.mp hp with rfl | hp
      · rfl
      · rcases List.mem_cons.mp hp with rfl | hp
        · exact absurd e.symm ne
        · cases hp)
    f__law_way_right := defTab_of X G (c.t.d.fact 44 (f := .glo "_law_way_right") (by rfl)) (c.t.d.def_ 44 (d := K01h.e__law_way_right) (by rfl)) (fun _ _ _ _ _ _ us hl => match us, hl with | [_, _, _], _ => by rfl) (tb _ (by simp)) (by simp) (fun p hp e => by
      rcases List.mem_cons.mp hp with rfl | hp
      · exact absurd e ne
      · rcases List.mem_cons.mp hp with rfl | hp
        · rfl
        · cases hp)
    f__law_cluster_right := at__law_cluster_right X G c
    f_law := at_law X G c
  }
end
end K01
end
section
set_option Elab.async false
set_option linter.all false
set_option maxRecDepth 100000
set_option maxHeartbeats 4000000
namespace K01
open PySem Pd
/-! ### clusters as they are drawn -/
structure Cl where
  rooms : List Int
  sizes : List Int
  zones : List Int
  far : Int
  alive : Int
  apart : Bool
def fl (c : Cl) : List (Str × PyData) := [("_rooms", tupI c.rooms), ("_sizes", tupI c.sizes), ("_zones", tupI c.zones), ("_far", .int c.far), ("_alive", .int c.alive), ("_apart", .bool c.apart)]
theorem fl_rooms (c : Cl) : (fl c).lookup ("_rooms" : Str) = some (.tuple (c.rooms.map .int)) := rfl
theorem fl_sizes (c : Cl) : (fl c).lookup ("_sizes" : Str) = some (.tuple (c.sizes.map .int)) := rfl
theorem fl_zones (c : Cl) : (fl c).lookup ("_zones" : Str) = some (.tuple (c.zones.map .int)) := rfl
theorem fl_far (c : Cl) : (fl c).lookup ("_far" : Str) = some (.int c.far) := rfl
theorem fl_alive (c : Cl) : (fl c).lookup ("_alive" : Str) = some (.int c.alive) := rfl
theorem fl_apart (c : Cl) : (fl c).lookup ("_apart" : Str) = some (.bool c.apart) := rfl
theorem atI_map (f : Int → PyData) (ns : List Int) (i : Int) : L2.atI (ns.map f) i = (L2.atI ns i).map f := by
  unfold L2.atI
  rw [List.length_map]
  cases L2.ixN ns.length i with
  | none => rfl
  | some m => simp
theorem atI_nn {α : Type} {xs : List α} {i : Int} (h : 0 ≤ i) : L2.atI xs i = xs[i.toNat]? := by
  unfold L2.atI L2.ixN
  rw [if_pos h]
  by_cases h2 : i < xs.length
  · rw [if_pos h2]; rfl
  · rw [if_neg h2]
    simp only [Option.bind_none]
    rw [List.getElem?_eq_none (by omega)]
def free : Option SV → Bool
  | some (.own _) => false
  | some (.dic _) => false
  | _ => true
@[simp] theorem free_none : free none = true := rfl
@[simp] theorem free_da (d : PyData) : free (some (.da d)) = true := rfl
@[simp] theorem free_obj (C : Addr) (fs : List (Str × PyData)) : free (some (.obj C fs)) = true := rfl
@[simp] theorem free_own (d : List PyData) : free (some (.own d)) = false := rfl
@[simp] theorem free_dic (d : List (PyData × PyData)) : free (some (.dic d)) = false := rfl
def ownB : Option SV → Bool
  | some (.own _) => true
  | _ => false
@[simp] theorem ownB_none : ownB none = false := rfl
@[simp] theorem ownB_da (d : PyData) : ownB (some (.da d)) = false := rfl
@[simp] theorem ownB_obj (C : Addr) (fs : List (Str × PyData)) : ownB (some (.obj C fs)) = false := rfl
@[simp] theorem ownB_own (d : List PyData) : ownB (some (.own d)) = true := rfl
@[simp] theorem ownB_dic (d : List (PyData × PyData)) : ownB (some (.dic d)) = false := rfl
theorem ownB_free {z : Option SV} (h : free z = true) : ownB z = false := by
  cases z with
  | none => rfl
  | some v => cases v <;> first | rfl | cases h
theorem isOwn_zero (z : Option SV) (l : PEnv) : Pd.isOwn (z :: l) 0 = ownB z := by
  unfold Pd.isOwn
  cases z with
  | none => rfl
  | some v => cases v <;> rfl
theorem isOwn_succ (z : Option SV) (l : PEnv) (i : Nat) : Pd.isOwn (z :: l) (i + 1) = Pd.isOwn l i := by
  unfold Pd.isOwn
  rw [List.getElem?_cons_succ]
theorem isOwn_nil (i : Nat) : Pd.isOwn [] i = false := rfl
theorem isOD_zero (z : Option SV) (l : PEnv) : Pd.isOD (z :: l) 0 = !free z := by
  unfold Pd.isOD Pd.isOwn Pd.isDic
  cases z with
  | none => rfl
  | some v => cases v <;> rfl
theorem isOD_succ (z : Option SV) (l : PEnv) (i : Nat) : Pd.isOD (z :: l) (i + 1) = Pd.isOD l i := by
  unfold Pd.isOD Pd.isOwn Pd.isDic
  rw [List.getElem?_cons_succ]
theorem isOD_nil (i : Nat) : Pd.isOD [] i = false := rfl
theorem mergeE_nil : Pd.mergeE [] [] = [] := rfl
def mrg (a b : Option SV) : Option SV := match a with
  | some (.own _) => (match b with
    | some (.own es) => some (.own es)
    | _ => none)
  | some (.dic _) => (match b with
    | some (.dic es) => some (.dic es)
    | _ => none)
  | a => a
theorem mrg_free {a b : Option SV} (h : free a = true) : mrg a b = a := by
  cases a with
  | none => rfl
  | some v => cases v <;> first | rfl | cases h
@[simp] theorem mrg_none (b : Option SV) : mrg none b = none := rfl
@[simp] theorem mrg_da (d : PyData) (b : Option SV) : mrg (some (.da d)) b = some (.da d) := rfl
@[simp] theorem mrg_obj (C : Addr) (fs : List (Str × PyData)) (b : Option SV) : mrg (some (.obj C fs)) b = some (.obj C fs) := rfl
@[simp] theorem mrg_own (d e : List PyData) : mrg (some (.own d)) (some (.own e)) = some (.own e) := rfl
@[simp] theorem mrg_dic (d e : List (PyData × PyData)) : mrg (some (.dic d)) (some (.dic e)) = some (.dic e) := rfl
theorem mergeE_cons (a b : Option SV) (as bs : PEnv) : Pd.mergeE (a :: as) (b :: bs) = mrg a b :: Pd.mergeE as bs := by
  unfold Pd.mergeE
  rw [List.zipWith_cons_cons]
  rfl
/-- len of a set comprehension of ints -/
theorem lvGo_eq {vs : List Nat} {g : SV → Mo Unit} {te : Mo SV} {env : PEnv} (f : PyData → Int) : ∀ {ds acc : List PyData}, acc.length + ds.length ≤ 60 → (∀ d ∈ ds, stepV vs g (retM true) te env d = some (some (.int (f d)), env)) →
    lvGo vs g (leafI te) ds acc env = some (acc ++ ds.map fun d => .int (f d), env)
  | [], acc, _, _ => by simp [lvGo]
  | d :: ds, acc, hl, h => by
    have hd := h d (.head _)
    rw [List.length_cons] at hl
    have ht : ∀ acc', acc'.length + ds.length ≤ 60 → lvGo vs g (leafI te) ds acc' env = some (acc' ++ ds.map fun d => .int (f d), env) := fun acc' hh => lvGo_eq f hh fun d' hd' => h d' (.tail _ hd')
    unfold stepV at hd
    unfold lvGo
    split at hd
    · rename_i hv
      rw [if_pos hv]
      split at hd
      · rename_i e1 q1
        try rw [q1]
        try dsimp only
        simp only [retM] at hd
        split at hd
        · rename_i y e3 q3
          have hd := Option.some.inj hd
          have h1 : some y = some (.int (f d)) := congrArg (·.1) hd
          have h2 : mergeE env e3 = env := congrArg (·.2) hd
          cases h1
          have hlf : leafI te acc e1 = some (acc ++ [.int (f d)], e3) := by
            unfold leafI
            rw [if_pos (by omega), q3]
          rw [hlf]
          simp only [Option.bind_some]
          rw [h2, ht _ (by rw [List.length_append]; simp; omega)]
          simp
        · cases hd
      · cases hd
    · cases hd
theorem intsOf_fmap {α : Type} (f : α → Int) (l : List α) : intsOf (l.map fun d => PyData.int (f d)) = some (l.map f) := by
  have := intsOf_map (l.map f)
  rw [List.map_map] at this
  exact this
theorem setLenM_eq {vs : List Nat} {fi : Mo (List PyData)} {g : SV → Mo Unit} {te : Mo SV} {env : PEnv} {ds : List PyData} (f : PyData → Int) (hfi : fi env = some (.ok ds env)) (hl : ds.length ≤ 60) (hs : ∀ d ∈ ds, stepV vs g (retM true) te env d = some (some (.int (f d)), env)) :
    setLenM vs fi g te env = some (.ok (.da (.int (dst (ds.map f)).length)) env) := by
  have hL := lvGo_eq (vs := vs) (g := g) (te := te) (env := env) f (acc := []) (ds := ds) (by simpa using hl) hs
  unfold setLenM Pd.bindM
  rw [hfi]
  dsimp only
  unfold accA
  rw [hL]
  simp [liftO, intsOf_fmap, hl, Nat.le_trans hl (by decide : 60 ≤ 1000)]
theorem shaped_int (i : Int) : SeqAt.shaped (.int i) = true := rfl
theorem eqv_int (i j : Int) : PyData.eqv (.int i) (.int j) = decide (i = j) := by
  show (i == j) = _
  by_cases h : i = j <;> simp [h]
theorem eqD_int (i j : Int) : eqD (.da (.int i)) (.da (.int j)) = some (.da (.bool (decide (i = j)))) := by
  simp only [eqD, shaped_int, eqv_int, Bool.and_self, if_true]
theorem neD_int (i j : Int) : neD (.da (.int i)) (.da (.int j)) = some (.da (.bool (!decide (i = j)))) := by
  simp only [neD, shaped_int, eqv_int, Bool.and_self, if_true]
def zn (c : Cl) (m : Int) : Int := (c.zones[m.toNat]?).getD 0
def asInt : PyData → Int
  | .int i => i
  | _ => 0
theorem zone_at {c : Cl} {m : Int} (h : 0 ≤ m ∧ m < c.zones.length) : L2.atI c.zones m = some (zn c m) := by
  rw [atI_nn h.1]
  unfold zn
  rw [List.getElem?_eq_getElem (by omega)]
  rfl
def inR (c : Cl) (m : Int) : Prop := 0 ≤ m ∧ m < c.rooms.length
def mayLie (c : Cl) (ms : List Int) : Bool := decide (c.alive ≤ ms.length) && (!c.apart || decide ((dst (ms.map (zn c))).length = ms.length))
theorem w_may_lie (A : Ads) (c : Cl) (ms : List Int) (hz : c.zones.length = c.rooms.length) (h : ∀ m ∈ ms, inR c m) (hl : ms.length ≤ 60) : c0_may_lie A [some (.obj A.C (fl c)), some (.da (tupI ms)), none] = some (.ok (.da (.int (dst (ms.map (zn c))).length)) [some (.obj A.C (fl c)), some (.da (tupI ms)), none]) := by
  unfold c0_may_lie
  rw [setLenM_eq (ds := ms.map .int) (fun d => zn c (asInt d)) (by rfl) (by simpa using hl) (fun d hd => ?_)]
  · rw [List.map_map]; rfl
  · obtain ⟨m, hm, rfl⟩ := List.mem_map.mp hd
    have h1 := h m hm
    unfold stepV
    simp [Pd.runN, Pd.runF, Pd.seqS, Pd.ifS, Pd.retS, Pd.withE, Pd.andV, Pd.orV, Pd.boolM, Pd.notM, Pd.andM, Pd.orM, Pd.ifM, Pd.isiM, Pd.bindM, Pd.varM, Pd.liftO, Pd.isiD, Pd.tyOfD, Pd.asB, Pd.notV, Pd.chainM, Pd.op2M, Pd.leD, Pd.ltD, Pd.gtD, Pd.geD, Pd.intD, Pd.retM, Pd.outOf, Pd.ownAt, Pd.bltM, Pd.vals, Pd.lenD, Pd.consM, Pd.callM, Pd.ownSlots, Pd.svsOf, Pd.svOf, Pd.setOwn, Pd.nxS, Pd.setM, isOwn_zero, isOwn_succ, isOwn_nil, isOD_zero, isOD_succ, isOD_nil, ownB_free, mrg_free, Pd.wipeE, mergeE_nil, mergeE_cons, Pd.fldM, Pd.fldOf, fl_rooms, fl_sizes, fl_zones, fl_far, fl_alive, fl_apart, Pd.siM, Pd.seqOf, Pd.asgS, Pd.setS, Pd.dropS, ixD, atI_map, zone_at (c := c) (m := m) (by rw [hz]; exact h1), asInt]
theorem v_may_lie (A : Ads) (c : Cl) (ms : List Int) (hz : c.zones.length = c.rooms.length) (h : ∀ m ∈ ms, inR c m) (hl : ms.length ≤ 60) : F_may_lie A [.obj A.C (fl c), .da (tupI ms)] = some (.ret (.da (.bool (mayLie c ms))) []) := by
  have w := w_may_lie A c ms hz h hl
  unfold F_may_lie g_may_lie mayLie
  by_cases h1 : (ms.length : Int) < c.alive
  · have h2 : ¬ c.alive ≤ ms.length := by omega
    unfold tupI at *
    simp [Pd.runN, Pd.runF, Pd.seqS, Pd.ifS, Pd.retS, Pd.withE, Pd.andV, Pd.orV, Pd.boolM, Pd.notM, Pd.andM, Pd.orM, Pd.ifM, Pd.isiM, Pd.bindM, Pd.varM, Pd.liftO, Pd.isiD, Pd.tyOfD, Pd.asB, Pd.notV, Pd.chainM, Pd.op2M, Pd.leD, Pd.ltD, Pd.gtD, Pd.geD, Pd.intD, Pd.retM, Pd.outOf, Pd.ownAt, Pd.bltM, Pd.vals, Pd.lenD, Pd.consM, Pd.callM, Pd.ownSlots, Pd.svsOf, Pd.svOf, Pd.setOwn, Pd.nxS, Pd.setM, isOwn_zero, isOwn_succ, isOwn_nil, isOD_zero, isOD_succ, isOD_nil, ownB_free, mrg_free, Pd.wipeE, mergeE_nil, mergeE_cons, Pd.fldM, Pd.fldOf, fl_rooms, fl_sizes, fl_zones, fl_far, fl_alive, fl_apart, Pd.siM, Pd.seqOf, Pd.asgS, Pd.setS, Pd.dropS, h1, h2]
  · have h2 : c.alive ≤ ms.length := by omega
    unfold tupI at *
    cases ha : c.apart <;> simp [Pd.runN, Pd.runF, Pd.seqS, Pd.ifS, Pd.retS, Pd.withE, Pd.andV, Pd.orV, Pd.boolM, Pd.notM, Pd.andM, Pd.orM, Pd.ifM, Pd.isiM, Pd.bindM, Pd.varM, Pd.liftO, Pd.isiD, Pd.tyOfD, Pd.asB, Pd.notV, Pd.chainM, Pd.op2M, Pd.leD, Pd.ltD, Pd.gtD, Pd.geD, Pd.intD, Pd.retM, Pd.outOf, Pd.ownAt, Pd.bltM, Pd.vals, Pd.lenD, Pd.consM, Pd.callM, Pd.ownSlots, Pd.svsOf, Pd.svOf, Pd.setOwn, Pd.nxS, Pd.setM, isOwn_zero, isOwn_succ, isOwn_nil, isOD_zero, isOD_succ, isOD_nil, ownB_free, mrg_free, Pd.wipeE, mergeE_nil, mergeE_cons, Pd.fldM, Pd.fldOf, fl_rooms, fl_sizes, fl_zones, fl_far, fl_alive, fl_apart, Pd.siM, Pd.seqOf, Pd.asgS, Pd.setS, Pd.dropS, h1, h2, w, ha, eqD_int, Int.natCast_inj]
end K01
end
section
set_option Elab.async false
set_option linter.all false
set_option maxRecDepth 100000
set_option maxHeartbeats 4000000
namespace K01
open PySem Pd
/-! ### loops -/
theorem forGo_inv {α : Type} (enc : α → PyData) {g : SV → Mo Unit} {body : MoS} {l : List α} (P : List α → PEnv → Prop) (hs : ∀ done x rest env, done ++ x :: rest = l → P done env → ∃ e1 e2, g (.da (enc x)) env = some (.ok () e1) ∧ (body e1 = some (.nx e2) ∨ body e1 = some (.ct e2)) ∧ P (done ++ [x]) e2) :
    ∀ (rest done : List α) (env : PEnv), done ++ rest = l → P done env → ∃ e, forGo g body (rest.map enc) env = some (.nx e) ∧ P l e
  | [], done, env, h, p => by
    rw [List.append_nil] at h
    subst h
    exact ⟨env, rfl, p⟩
  | x :: rest, done, env, h, p => by
    obtain ⟨e1, e2, h1, h2, h3⟩ := hs done x rest env h p
    obtain ⟨e, q1, q2⟩ := forGo_inv enc P hs rest (done ++ [x]) e2 (by rw [← h]; simp) h3
    refine ⟨e, ?_, q2⟩
    rw [List.map_cons]
    unfold forGo
    rw [h1]
    dsimp only
    rcases h2 with h2 | h2 <;> rw [h2] <;> exact q1
/-- a loop over a source that leaves the slots -/
theorem forS_inv {α : Type} (enc : α → PyData) {fi : Mo (List PyData)} {g : SV → Mo Unit} {body : MoS} {l : List α} {env : PEnv} (P : List α → PEnv → Prop) (hf : fi env = some (.ok (l.map enc) env)) (h0 : P [] env) (hs : ∀ done x rest env, done ++ x :: rest = l → P done env → ∃ e1 e2, g (.da (enc x)) env = some (.ok () e1) ∧ (body e1 = some (.nx e2) ∨ body e1 = some (.ct e2)) ∧ P (done ++ [x]) e2) :
    ∃ e, forS fi g body env = some (.nx e) ∧ P l e := by
  unfold forS withE
  rw [hf]
  exact forGo_inv enc P hs l [] env rfl h0
def ns (n : Nat) : List Int := (List.range n).map fun i : Nat => (i : Int)
theorem ns_len (n : Nat) : (ns n).length = n := by unfold ns; simp
theorem ns_get {n m : Nat} (h : m < n) : (ns n)[m]? = some (m : Int) := by unfold ns; simp [h]
theorem mem_ns {n : Nat} {m : Int} : m ∈ ns n ↔ 0 ≤ m ∧ m < n := by
  unfold ns
  simp only [List.mem_map, List.mem_range]
  constructor
  · rintro ⟨i, hi, rfl⟩; omega
  · intro h; exact ⟨m.toNat, by omega, by omega⟩
theorem map_set_ns {α : Type} (n : Nat) (a : Int → α) (m : Int) (v : α) (h : 0 ≤ m ∧ m < n) : ((ns n).map a).set m.toNat v = (ns n).map fun j => if j = m then v else a j := by
  apply List.ext_getElem?
  intro i
  rw [List.getElem?_set]
  by_cases hi : i < n
  · rw [List.getElem?_map, List.getElem?_map, ns_get hi]
    simp only [List.length_map, ns_len, Option.map_some]
    by_cases e : m.toNat = i
    · subst e
      rw [if_pos rfl, if_pos hi, if_pos (by omega)]
    · rw [if_neg e, if_neg (by omega)]
  · have h1 : (ns n)[i]? = none := List.getElem?_eq_none (by rw [ns_len]; omega)
    rw [List.getElem?_map, List.getElem?_map, h1]
    rw [if_neg (by omega)]
    rfl
theorem aug_eval {x0 x1 x4 : Option SV} {n : Nat} {a : Int → Int} {s m : Int} (h : 0 ≤ m ∧ m < n) :
    augS 2 (varM 5) (varM 3) [x0, x1, some (.own (((ns n).map a).map .int)), some (.da (.int s)), x4, some (.da (.int m))] = some (.nx [x0, x1, some (.own (((ns n).map fun j => if j = m then a j + s else a j).map .int)), some (.da (.int s)), x4, some (.da (.int m))]) := by
  have e1 : L2.ixN n m = some m.toNat := by
    unfold L2.ixN
    rw [if_pos h.1, if_pos h.2]
  have e2 : (ns n)[m.toNat]? = some m := by
    rw [ns_get (by omega)]
    congr 1
    omega
  have e3 : ((ns n).map a).set m.toNat (a m + s) = (ns n).map fun j => if j = m then a j + s else a j := by
    rw [map_set_ns n a m _ h]
    apply List.map_congr_left
    intro j _
    by_cases e : j = m
    · rw [if_pos e, if_pos e, e]
    · rw [if_neg e, if_neg e]
  have e4 : ∀ l : List Int, ∀ k v, (l.map PyData.int).set k (.int v) = (l.set k v).map .int := fun l k v => by rw [List.map_set]
  unfold augS
  simp [Pd.runN, Pd.runF, Pd.seqS, Pd.ifS, Pd.retS, Pd.withE, Pd.andV, Pd.orV, Pd.boolM, Pd.notM, Pd.andM, Pd.orM, Pd.ifM, Pd.isiM, Pd.bindM, Pd.varM, Pd.liftO, Pd.isiD, Pd.tyOfD, Pd.asB, Pd.notV, Pd.chainM, Pd.op2M, Pd.leD, Pd.ltD, Pd.gtD, Pd.geD, Pd.intD, Pd.retM, Pd.outOf, Pd.ownAt, Pd.bltM, Pd.vals, Pd.lenD, Pd.consM, Pd.callM, Pd.ownSlots, Pd.svsOf, Pd.svOf, Pd.setOwn, Pd.nxS, Pd.setM, isOwn_zero, isOwn_succ, isOwn_nil, isOD_zero, isOD_succ, isOD_nil, ownB_free, mrg_free, Pd.wipeE, mergeE_nil, mergeE_cons, Pd.fldM, Pd.fldOf, fl_rooms, fl_sizes, fl_zones, fl_far, fl_alive, fl_apart, Pd.siM, Pd.seqOf, Pd.asgS, Pd.setS, Pd.dropS, asI, ns_len, e1, e2]
  have e5 := e4 ((ns n).map a) m.toNat (a m + s)
  rw [e3] at e5
  simp only [List.map_map] at e5
  exact e5
/-- what a machine holds -/
def hl (c : Cl) (p : List (List Int)) (m : Int) : Int := ((c.sizes.zip p).map fun q => if m ∈ q.2 then q.1 else 0).sum
def eP (p : List (List Int)) : PyData := .tuple (p.map tupI)
structure OkP (c : Cl) (p : List (List Int)) : Prop where
  rng : ∀ ms ∈ p, ∀ m ∈ ms, inR c m
  nd : ∀ ms ∈ p, ms.Nodup
  len : ∀ ms ∈ p, ms.length ≤ 60
/-- the machines of one shard -/
theorem inner_held (A : Ads) {x0 x1 y5 : Option SV} {n : Nat} {a : Int → Int} {s : Int} {ms : List Int} (hr : ∀ m ∈ ms, 0 ≤ m ∧ m < n) (nd : ms.Nodup) (h5 : free y5 = true) :
    ∃ z5, free z5 = true ∧ c0_held A [x0, x1, some (.own (((ns n).map a).map .int)), some (.da (.int s)), some (.da (tupI ms)), y5] =
      some (.nx [x0, x1, some (.own (((ns n).map fun j => a j + if j ∈ ms then s else 0).map .int)), some (.da (.int s)), some (.da (tupI ms)), z5]) := by
  obtain ⟨e, h1, z5, h2, rfl⟩ := forS_inv PyData.int (fi := siM (varM 4)) (g := setM 5) (body := augS 2 (varM 5) (varM 3)) (l := ms) (env := [x0, x1, some (.own (((ns n).map a).map .int)), some (.da (.int s)), some (.da (tupI ms)), y5])
    (fun done e => ∃ z5, free z5 = true ∧ e = [x0, x1, some (.own (((ns n).map fun j => a j + if j ∈ done then s else 0).map .int)), some (.da (.int s)), some (.da (tupI ms)), z5])
    (by rfl) ⟨y5, h5, by simp⟩ (fun done m rest env hd hp => by
      obtain ⟨z5, hz, rfl⟩ := hp
      have hm : m ∈ ms := by rw [← hd]; simp
      have hnot : m ∉ done := fun z => by
        rw [← hd, List.nodup_append] at nd
        exact nd.2.2 _ z _ (.head _) rfl
      refine ⟨[x0, x1, some (.own (((ns n).map fun j => a j + if j ∈ done then s else 0).map .int)), some (.da (.int s)), some (.da (tupI ms)), some (.da (.int m))], _, ?_, .inl (aug_eval (hr m hm)), some (.da (.int m)), rfl, ?_⟩
      · simp [Pd.runN, Pd.runF, Pd.seqS, Pd.ifS, Pd.retS, Pd.withE, Pd.andV, Pd.orV, Pd.boolM, Pd.notM, Pd.andM, Pd.orM, Pd.ifM, Pd.isiM, Pd.bindM, Pd.varM, Pd.liftO, Pd.isiD, Pd.tyOfD, Pd.asB, Pd.notV, Pd.chainM, Pd.op2M, Pd.leD, Pd.ltD, Pd.gtD, Pd.geD, Pd.intD, Pd.retM, Pd.outOf, Pd.ownAt, Pd.bltM, Pd.vals, Pd.lenD, Pd.consM, Pd.callM, Pd.ownSlots, Pd.svsOf, Pd.svOf, Pd.setOwn, Pd.nxS, Pd.setM, isOwn_zero, isOwn_succ, isOwn_nil, isOD_zero, isOD_succ, isOD_nil, ownB_free, mrg_free, Pd.wipeE, mergeE_nil, mergeE_cons, Pd.fldM, Pd.fldOf, fl_rooms, fl_sizes, fl_zones, fl_far, fl_alive, fl_apart, Pd.siM, Pd.seqOf, Pd.asgS, Pd.setS, Pd.dropS, hz]
      · congr 5
        refine congrArg (List.map PyData.int) (List.map_congr_left fun j _ => ?_)
        by_cases e : j = m
        · subst e
          simp [hnot]
        · simp [e])
  exact ⟨z5, h2, h1⟩
theorem zipL_map (ss : List Int) (p : List (List Int)) : zipL (ss.map .int) (p.map tupI) = (ss.zip p).map fun q => PyData.tuple [.int q.1, tupI q.2] := by
  unfold zipL
  induction ss generalizing p with
  | nil => rfl
  | cons s ss ih =>
    cases p with
    | nil => rfl
    | cons ms p => simp [ih p]
theorem v_held (A : Ads) (c : Cl) (p : List (List Int)) (h : OkP c p) (hn : c.rooms.length ≤ 1000) : F_held A [.obj A.C (fl c), .da (eP p)] = some (.ret (.da (.list (((ns c.rooms.length).map (hl c p)).map .int))) []) := by
  have loop : ∃ z3 z4 z5, c1_held A [some (.obj A.C (fl c)), some (.da (eP p)), some (.own (((ns c.rooms.length).map fun _ => (0 : Int)).map .int)), none, none, none] =
      some (.nx [some (.obj A.C (fl c)), some (.da (eP p)), some (.own (((ns c.rooms.length).map (hl c p)).map .int)), z3, z4, z5]) := by
    obtain ⟨e, h1, z3, z4, z5, _, _, _, rfl⟩ := forS_inv (fun q : Int × List Int => PyData.tuple [.int q.1, tupI q.2]) (fi := ztM (consM (fldM A.C "_sizes" (varM 0)) (consM (varM 1) (retM [])))) (g := tupG 2 (consG (setM 3) (consG (setM 4) nilG))) (body := c0_held A)
      (l := c.sizes.zip p) (env := [some (.obj A.C (fl c)), some (.da (eP p)), some (.own (((ns c.rooms.length).map fun _ => (0 : Int)).map .int)), none, none, none])
      (fun done e => ∃ z3 z4 z5, free z3 = true ∧ free z4 = true ∧ free z5 = true ∧ e = [some (.obj A.C (fl c)), some (.da (eP p)), some (.own (((ns c.rooms.length).map fun j => (done.map fun q : Int × List Int => if j ∈ q.2 then q.1 else 0).sum).map .int)), z3, z4, z5])
      (by unfold eP; simp [Pd.runN, Pd.runF, Pd.seqS, Pd.ifS, Pd.retS, Pd.withE, Pd.andV, Pd.orV, Pd.boolM, Pd.notM, Pd.andM, Pd.orM, Pd.ifM, Pd.isiM, Pd.bindM, Pd.varM, Pd.liftO, Pd.isiD, Pd.tyOfD, Pd.asB, Pd.notV, Pd.chainM, Pd.op2M, Pd.leD, Pd.ltD, Pd.gtD, Pd.geD, Pd.intD, Pd.retM, Pd.outOf, Pd.ownAt, Pd.bltM, Pd.vals, Pd.lenD, Pd.consM, Pd.callM, Pd.ownSlots, Pd.svsOf, Pd.svOf, Pd.setOwn, Pd.nxS, Pd.setM, isOwn_zero, isOwn_succ, isOwn_nil, isOD_zero, isOD_succ, isOD_nil, ownB_free, mrg_free, Pd.wipeE, mergeE_nil, mergeE_cons, Pd.fldM, Pd.fldOf, fl_rooms, fl_sizes, fl_zones, fl_far, fl_alive, fl_apart, Pd.siM, Pd.seqOf, Pd.asgS, Pd.setS, Pd.dropS, ztM, zipL_map]) ⟨none, none, none, rfl, rfl, rfl, rfl⟩ (fun done q rest env hd hp => by
        obtain ⟨z3, z4, z5, n3, n4, n5, rfl⟩ := hp
        have hqp : q.2 ∈ p := by
          have : q ∈ c.sizes.zip p := by rw [← hd]; simp
          exact (List.of_mem_zip this).2
        obtain ⟨w5, hw, hb⟩ := inner_held A (x0 := some (.obj A.C (fl c))) (x1 := some (.da (eP p))) (y5 := z5) (n := c.rooms.length) (a := fun j => (done.map fun q : Int × List Int => if j ∈ q.2 then q.1 else 0).sum) (s := q.1) (ms := q.2) (h.rng _ hqp) (h.nd _ hqp) n5
        refine ⟨_, _, ?_, .inl hb, some (.da (.int q.1)), some (.da (tupI q.2)), w5, rfl, rfl, hw, ?_⟩
        · simp [Pd.runN, Pd.runF, Pd.seqS, Pd.ifS, Pd.retS, Pd.withE, Pd.andV, Pd.orV, Pd.boolM, Pd.notM, Pd.andM, Pd.orM, Pd.ifM, Pd.isiM, Pd.bindM, Pd.varM, Pd.liftO, Pd.isiD, Pd.tyOfD, Pd.asB, Pd.notV, Pd.chainM, Pd.op2M, Pd.leD, Pd.ltD, Pd.gtD, Pd.geD, Pd.intD, Pd.retM, Pd.outOf, Pd.ownAt, Pd.bltM, Pd.vals, Pd.lenD, Pd.consM, Pd.callM, Pd.ownSlots, Pd.svsOf, Pd.svOf, Pd.setOwn, Pd.nxS, Pd.setM, isOwn_zero, isOwn_succ, isOwn_nil, isOD_zero, isOD_succ, isOD_nil, ownB_free, mrg_free, Pd.wipeE, mergeE_nil, mergeE_cons, Pd.fldM, Pd.fldOf, fl_rooms, fl_sizes, fl_zones, fl_far, fl_alive, fl_apart, Pd.siM, Pd.seqOf, Pd.asgS, Pd.setS, Pd.dropS, tupG, consG, nilG, n3, n4]
        · congr 5
          refine congrArg (List.map PyData.int) (List.map_congr_left fun j _ => ?_)
          simp)
    exact ⟨z3, z4, z5, h1⟩
  obtain ⟨z3, z4, z5, hloop⟩ := loop
  have hrep : List.replicate c.rooms.length (PyData.int 0) = ((ns c.rooms.length).map fun _ => (0 : Int)).map .int := by
    rw [List.map_map]
    have : (PyData.int ∘ fun _ : Int => (0 : Int)) = fun _ => PyData.int 0 := rfl
    rw [this, List.map_const', ns_len]
  have hn' : (c.rooms.length : Int) ≤ 1000 := by omega
  simp only [List.map_map] at hloop hrep
  unfold F_held g_held
  simp [Pd.runN, Pd.runF, Pd.seqS, Pd.ifS, Pd.retS, Pd.withE, Pd.andV, Pd.orV, Pd.boolM, Pd.notM, Pd.andM, Pd.orM, Pd.ifM, Pd.isiM, Pd.bindM, Pd.varM, Pd.liftO, Pd.isiD, Pd.tyOfD, Pd.asB, Pd.notV, Pd.chainM, Pd.op2M, Pd.leD, Pd.ltD, Pd.gtD, Pd.geD, Pd.intD, Pd.retM, Pd.outOf, Pd.ownAt, Pd.bltM, Pd.vals, Pd.lenD, Pd.consM, Pd.callM, Pd.ownSlots, Pd.svsOf, Pd.svOf, Pd.setOwn, Pd.nxS, Pd.setM, isOwn_zero, isOwn_succ, isOwn_nil, isOD_zero, isOD_succ, isOD_nil, ownB_free, mrg_free, Pd.wipeE, mergeE_nil, mergeE_cons, Pd.fldM, Pd.fldOf, fl_rooms, fl_sizes, fl_zones, fl_far, fl_alive, fl_apart, Pd.siM, Pd.seqOf, Pd.asgS, Pd.setS, Pd.dropS, ownS, repLM, one?, datas, asI, hn', hrep, hloop, frzS]
end K01
end
section
set_option Elab.async false
set_option linter.all false
set_option maxRecDepth 100000
set_option maxHeartbeats 4000000
namespace K01
open PySem Pd
theorem lcGo_tl {α : Type} (enc : α → PyData) {vs : List Nat} {g : SV → Mo Unit} {tt : Mo Bool} {te : Mo SV} {env : PEnv} (f : α → Option PyData) : ∀ {l : List α} {acc : List PyData}, (∀ x ∈ l, stepV vs g tt te env (enc x) = some (f x, env)) → lcGo vs g tt te (l.map enc) acc env = some (.ok (acc ++ l.filterMap f) env)
  | [], acc, _ => by simp [lcGo, retM]
  | x :: l, acc, h => by
    have hd := h x (.head _)
    have ht : ∀ acc, lcGo vs g tt te (l.map enc) acc env = some (.ok (acc ++ l.filterMap f) env) := fun acc => lcGo_tl enc f fun d' hd' => h d' (.tail _ hd')
    have one := lcGo_eq (vs := vs) (g := g) (tt := tt) (te := te) (env := env) (fun _ => f x) (ds := [enc x]) (acc := acc) (fun d hd' => by
      rw [List.mem_singleton] at hd'
      rw [hd']; exact hd)
    rw [List.map_cons]
    have key : lcGo vs g tt te (enc x :: l.map enc) acc env = lcGo vs g tt te (l.map enc) (acc ++ (f x).toList) env := by
      unfold stepV at hd
      unfold lcGo
      split at hd
      · rename_i hv
        rw [if_pos hv]
        split at hd
        · rename_i e1 q1
          try rw [q1]
          try dsimp only
          split at hd
          · rename_i e2 q2
            try rw [q2]
            try dsimp only
            split at hd
            · rename_i y e3 q3
              try rw [q3]
              try dsimp only
              have hd := Option.some.inj hd
              have h1 : some y = f x := congrArg (·.1) hd
              have h2 : mergeE env e3 = env := congrArg (·.2) hd
              rw [h2, ← h1]; cases l <;> rfl
            · cases hd
          · rename_i e2 q2
            try rw [q2]
            try dsimp only
            have hd := Option.some.inj hd
            have h1 : none = f x := congrArg (·.1) hd
            have h2 : mergeE env e2 = env := congrArg (·.2) hd
            rw [h2, ← h1]; cases l <;> simp [lcGo]
          · cases hd
        · cases hd
      · cases hd
    rw [key, ht, List.filterMap_cons]
    cases f x <;> simp
theorem lcM_tl {α : Type} (enc : α → PyData) {vs : List Nat} {fi : Mo (List PyData)} {g : SV → Mo Unit} {tt : Mo Bool} {te : Mo SV} {env : PEnv} {l : List α} (f : α → Option PyData) (hfi : fi env = some (.ok (l.map enc) env)) (hl : l.length ≤ LIM) (hs : ∀ x ∈ l, stepV vs g tt te env (enc x) = some (f x, env)) :
    lcM vs fi g tt te env = some (.ok (.da (.list (l.filterMap f))) env) := by
  unfold lcM Pd.bindM
  rw [hfi]
  dsimp only
  rw [if_pos (by rw [List.length_map]; exact hl)]
  simp only [liftO]
  rw [lcGo_tl enc f hs]
  rfl
theorem filterMap_some {α β : Type} (f : α → β) (l : List α) : l.filterMap (fun a => some (f a)) = l.map f := by
  induction l with
  | nil => rfl
  | cons a l ih => simp
theorem zipL_ints (xs ys : List Int) : zipL (xs.map .int) (ys.map .int) = (xs.zip ys).map fun q : Int × Int => PyData.tuple [.int q.1, .int q.2] := by
  unfold zipL
  induction xs generalizing ys with
  | nil => rfl
  | cons s ss ih =>
    cases ys with
    | nil => rfl
    | cons m p => simp [ih p]
theorem allD_map {α : Type} (p : α → Bool) (l : List α) : allD [.da (.list (l.map fun a => PyData.bool (p a)))] = some (.da (.bool (l.all p))) := by
  simp [allD, all_map_bool, List.all_map, Function.comp_def]
def loads (c : Cl) (p : List (List Int)) : List Int := (ns c.rooms.length).map (hl c p)
def fits (c : Cl) (p : List (List Int)) : Bool := ((loads c p).zip c.rooms).all fun q => decide (q.1 ≤ q.2)
theorem v_fits (A : Ads) (c : Cl) (p : List (List Int)) (h : OkP c p) (hn : c.rooms.length ≤ 1000) : F_fits A [.obj A.C (fl c), .da (eP p)] = some (.ret (.da (.bool (fits c p))) []) := by
  have hl1 : ((loads c p).zip c.rooms).length ≤ LIM := by
    rw [List.length_zip]
    unfold LIM; omega
  have w : c0_fits A [some (.obj A.C (fl c)), some (.da (eP p)), none, none] = some (.ok (.da (.list (((loads c p).zip c.rooms).map fun q => .bool (decide (q.1 ≤ q.2))))) [some (.obj A.C (fl c)), some (.da (eP p)), none, none]) := by
    unfold c0_fits
    rw [lcM_tl (fun q : Int × Int => PyData.tuple [.int q.1, .int q.2]) (l := (loads c p).zip c.rooms) (fun q => some (.bool (decide (q.1 ≤ q.2)))) ?_ hl1 (fun q _ => ?_), filterMap_some]
    · have := v_held A c p h hn
      simp [Pd.runN, Pd.runF, Pd.seqS, Pd.ifS, Pd.retS, Pd.withE, Pd.andV, Pd.orV, Pd.boolM, Pd.notM, Pd.andM, Pd.orM, Pd.ifM, Pd.isiM, Pd.bindM, Pd.varM, Pd.liftO, Pd.isiD, Pd.tyOfD, Pd.asB, Pd.notV, Pd.chainM, Pd.op2M, Pd.leD, Pd.ltD, Pd.gtD, Pd.geD, Pd.intD, Pd.retM, Pd.outOf, Pd.ownAt, Pd.bltM, Pd.vals, Pd.lenD, Pd.consM, Pd.callM, Pd.ownSlots, Pd.svsOf, Pd.svOf, Pd.setOwn, Pd.nxS, Pd.setM, isOwn_zero, isOwn_succ, isOwn_nil, isOD_zero, isOD_succ, isOD_nil, ownB_free, mrg_free, Pd.wipeE, mergeE_nil, mergeE_cons, Pd.fldM, Pd.fldOf, fl_rooms, fl_sizes, fl_zones, fl_far, fl_alive, fl_apart, Pd.siM, Pd.seqOf, Pd.asgS, Pd.setS, Pd.dropS, zmM, this]
      have z := zipL_ints (loads c p) c.rooms
      unfold loads at z ⊢
      rw [List.map_map] at z
      exact z
    · unfold stepV
      simp [Pd.runN, Pd.runF, Pd.seqS, Pd.ifS, Pd.retS, Pd.withE, Pd.andV, Pd.orV, Pd.boolM, Pd.notM, Pd.andM, Pd.orM, Pd.ifM, Pd.isiM, Pd.bindM, Pd.varM, Pd.liftO, Pd.isiD, Pd.tyOfD, Pd.asB, Pd.notV, Pd.chainM, Pd.op2M, Pd.leD, Pd.ltD, Pd.gtD, Pd.geD, Pd.intD, Pd.retM, Pd.outOf, Pd.ownAt, Pd.bltM, Pd.vals, Pd.lenD, Pd.consM, Pd.callM, Pd.ownSlots, Pd.svsOf, Pd.svOf, Pd.setOwn, Pd.nxS, Pd.setM, isOwn_zero, isOwn_succ, isOwn_nil, isOD_zero, isOD_succ, isOD_nil, ownB_free, mrg_free, Pd.wipeE, mergeE_nil, mergeE_cons, Pd.fldM, Pd.fldOf, fl_rooms, fl_sizes, fl_zones, fl_far, fl_alive, fl_apart, Pd.siM, Pd.seqOf, Pd.asgS, Pd.setS, Pd.dropS, tupG, consG, nilG]
  unfold F_fits g_fits
  simp [Pd.runN, Pd.runF, Pd.seqS, Pd.ifS, Pd.retS, Pd.withE, Pd.andV, Pd.orV, Pd.boolM, Pd.notM, Pd.andM, Pd.orM, Pd.ifM, Pd.isiM, Pd.bindM, Pd.varM, Pd.liftO, Pd.isiD, Pd.tyOfD, Pd.asB, Pd.notV, Pd.chainM, Pd.op2M, Pd.leD, Pd.ltD, Pd.gtD, Pd.geD, Pd.intD, Pd.retM, Pd.outOf, Pd.ownAt, Pd.bltM, Pd.vals, Pd.lenD, Pd.consM, Pd.callM, Pd.ownSlots, Pd.svsOf, Pd.svOf, Pd.setOwn, Pd.nxS, Pd.setM, isOwn_zero, isOwn_succ, isOwn_nil, isOD_zero, isOD_succ, isOD_nil, ownB_free, mrg_free, Pd.wipeE, mergeE_nil, mergeE_cons, Pd.fldM, Pd.fldOf, fl_rooms, fl_sizes, fl_zones, fl_far, fl_alive, fl_apart, Pd.siM, Pd.seqOf, Pd.asgS, Pd.setS, Pd.dropS, w, allD_map, fits]
end K01
end
section
set_option Elab.async false
set_option linter.all false
set_option maxRecDepth 100000
set_option maxHeartbeats 4000000
namespace K01
open PySem Pd
/-! ### ascending tuples, placings -/
def Asc (n : Int) : Int → List Int → Prop
  | _, [] => True
  | low, m :: r => low ≤ m ∧ m < n ∧ Asc n (m + 1) r
theorem go_asc (A : Ads) (t : PyData) (n : Int) : ∀ (ms : List Int) (low : Int) (z : Option SV), Asc n low ms → free z = true →
    ∃ low' z', free z' = true ∧ forGo (setM 3) (seqS (ifS (notM (boolM (Pd.bindM (consM (varM 3) (consM (varM 2) (consM (op2M subD (varM 1) (retM (.da (.int 1)))) (retM [])))) (callM (F_is_number A))))) (retS (retM (.da (.bool false)))) nxS) (setS 2 (op2M addD (varM 3) (retM (.da (.int 1)))))) (ms.map .int) [some (.da t), some (.da (.int n)), some (.da (.int low)), z] = some (.nx [some (.da t), some (.da (.int n)), some (.da (.int low')), z'])
  | [], low, z, _, hz => ⟨low, z, hz, rfl⟩
  | m :: r, low, z, h, hz => by
    obtain ⟨low', z', h1, h2⟩ := go_asc A t n r (m + 1) (some (.da (.int m))) h.2.2 rfl
    refine ⟨low', z', h1, ?_⟩
    rw [List.map_cons]
    unfold forGo
    have e1 : numOk low (n - 1) (.int m) = true := by
      have := h.1; have := h.2.1
      simp [numOk]; omega
    have hs : setM 3 (.da (.int m)) [some (.da t), some (.da (.int n)), some (.da (.int low)), z] = some (.ok () [some (.da t), some (.da (.int n)), some (.da (.int low)), some (.da (.int m))]) := by simp [Pd.runN, Pd.runF, Pd.seqS, Pd.ifS, Pd.retS, Pd.withE, Pd.andV, Pd.orV, Pd.boolM, Pd.notM, Pd.andM, Pd.orM, Pd.ifM, Pd.isiM, Pd.bindM, Pd.varM, Pd.liftO, Pd.isiD, Pd.tyOfD, Pd.asB, Pd.notV, Pd.chainM, Pd.op2M, Pd.leD, Pd.ltD, Pd.gtD, Pd.geD, Pd.intD, Pd.retM, Pd.outOf, Pd.ownAt, Pd.bltM, Pd.vals, Pd.lenD, Pd.consM, Pd.callM, Pd.ownSlots, Pd.svsOf, Pd.svOf, Pd.setOwn, Pd.nxS, Pd.setM, isOwn_zero, isOwn_succ, isOwn_nil, isOD_zero, isOD_succ, isOD_nil, ownB_free, mrg_free, Pd.wipeE, mergeE_nil, mergeE_cons, Pd.fldM, Pd.fldOf, fl_rooms, fl_sizes, fl_zones, fl_far, fl_alive, fl_apart, Pd.siM, Pd.seqOf, Pd.asgS, Pd.setS, Pd.dropS, hz]
    rw [hs]
    dsimp only
    have hb : (seqS (ifS (notM (boolM (Pd.bindM (consM (varM 3) (consM (varM 2) (consM (op2M subD (varM 1) (retM (.da (.int 1)))) (retM [])))) (callM (F_is_number A))))) (retS (retM (.da (.bool false)))) nxS) (setS 2 (op2M addD (varM 3) (retM (.da (.int 1)))))) [some (.da t), some (.da (.int n)), some (.da (.int low)), some (.da (.int m))] = some (.nx [some (.da t), some (.da (.int n)), some (.da (.int (m + 1))), some (.da (.int m))]) := by
      simp [Pd.runN, Pd.runF, Pd.seqS, Pd.ifS, Pd.retS, Pd.withE, Pd.andV, Pd.orV, Pd.boolM, Pd.notM, Pd.andM, Pd.orM, Pd.ifM, Pd.isiM, Pd.bindM, Pd.varM, Pd.liftO, Pd.isiD, Pd.tyOfD, Pd.asB, Pd.notV, Pd.chainM, Pd.op2M, Pd.leD, Pd.ltD, Pd.gtD, Pd.geD, Pd.intD, Pd.retM, Pd.outOf, Pd.ownAt, Pd.bltM, Pd.vals, Pd.lenD, Pd.consM, Pd.callM, Pd.ownSlots, Pd.svsOf, Pd.svOf, Pd.setOwn, Pd.nxS, Pd.setM, isOwn_zero, isOwn_succ, isOwn_nil, isOD_zero, isOD_succ, isOD_nil, ownB_free, mrg_free, Pd.wipeE, mergeE_nil, mergeE_cons, Pd.fldM, Pd.fldOf, fl_rooms, fl_sizes, fl_zones, fl_far, fl_alive, fl_apart, Pd.siM, Pd.seqOf, Pd.asgS, Pd.setS, Pd.dropS, v_is_number, e1, addD]
    rw [hb]
    exact h2
theorem v_is_ascending (A : Ads) (ms : List Int) (n : Int) (h : Asc n 0 ms) : F_is_ascending A [.da (tupI ms), .da (.int n)] = some (.ret (.da (.bool true)) []) := by
  obtain ⟨low', z', h1, h2⟩ := go_asc A (tupI ms) n ms 0 none h rfl
  have w : c0_is_ascending A [some (.da (tupI ms)), some (.da (.int n)), some (.da (.int 0)), none] = some (.nx [some (.da (tupI ms)), some (.da (.int n)), some (.da (.int low')), z']) := by
    unfold c0_is_ascending forS withE
    show forGo _ _ (ms.map .int) _ = _
    exact h2
  unfold F_is_ascending g_is_ascending
  unfold tupI at *
  simp [Pd.runN, Pd.runF, Pd.seqS, Pd.ifS, Pd.retS, Pd.withE, Pd.andV, Pd.orV, Pd.boolM, Pd.notM, Pd.andM, Pd.orM, Pd.ifM, Pd.isiM, Pd.bindM, Pd.varM, Pd.liftO, Pd.isiD, Pd.tyOfD, Pd.asB, Pd.notV, Pd.chainM, Pd.op2M, Pd.leD, Pd.ltD, Pd.gtD, Pd.geD, Pd.intD, Pd.retM, Pd.outOf, Pd.ownAt, Pd.bltM, Pd.vals, Pd.lenD, Pd.consM, Pd.callM, Pd.ownSlots, Pd.svsOf, Pd.svOf, Pd.setOwn, Pd.nxS, Pd.setM, isOwn_zero, isOwn_succ, isOwn_nil, isOD_zero, isOD_succ, isOD_nil, ownB_free, mrg_free, Pd.wipeE, mergeE_nil, mergeE_cons, Pd.fldM, Pd.fldOf, fl_rooms, fl_sizes, fl_zones, fl_far, fl_alive, fl_apart, Pd.siM, Pd.seqOf, Pd.asgS, Pd.setS, Pd.dropS, kb3, w]
theorem asc_nd {n : Int} : ∀ {ms : List Int} {low : Int}, Asc n low ms → (∀ m ∈ ms, low ≤ m ∧ m < n) ∧ ms.Nodup
  | [], low, _ => ⟨fun m hm => by simp at hm, List.nodup_nil⟩
  | a :: r, low, h => by
    obtain ⟨h1, h2⟩ := asc_nd h.2.2
    refine ⟨fun m hm => ?_, List.nodup_cons.mpr ⟨fun z => ?_, h2⟩⟩
    · rcases List.mem_cons.mp hm with rfl | hm
      · exact ⟨h.1, h.2.1⟩
      · have := h1 m hm; have := h.1
        exact ⟨by omega, (h1 m hm).2⟩
    · have := (h1 a z).1; omega
/-- placings, also those that are too full or lie wrongly -/
structure Wild (c : Cl) (p : List (List Int)) : Prop where
  len : p.length = c.sizes.length
  asc : ∀ ms ∈ p, Asc c.rooms.length 0 ms
  sm : ∀ ms ∈ p, ms.length ≤ 60
theorem Wild.ok {c : Cl} {p : List (List Int)} (h : Wild c p) : OkP c p := ⟨fun ms hm m hx => ((asc_nd (h.asc ms hm)).1 m hx), fun ms hm => (asc_nd (h.asc ms hm)).2, h.sm⟩
structure OkC (c : Cl) : Prop where
  zl : c.zones.length = c.rooms.length
  rl : 2 ≤ c.rooms.length ∧ c.rooms.length ≤ 3
  sl : 1 ≤ c.sizes.length ∧ c.sizes.length ≤ 3
  sp : ∀ s ∈ c.sizes, 1 ≤ s
  al : 1 ≤ c.alive ∧ c.alive ≤ 2
theorem v_check_cluster (A : Ads) (c : Cl) : F_check_cluster A [.obj A.C (fl c)] = some (.ret (.da .none) []) := by
  unfold F_check_cluster g_check_cluster
  simp [Pd.runN, Pd.runF, Pd.seqS, Pd.ifS, Pd.retS, Pd.withE, Pd.andV, Pd.orV, Pd.boolM, Pd.notM, Pd.andM, Pd.orM, Pd.ifM, Pd.isiM, Pd.bindM, Pd.varM, Pd.liftO, Pd.isiD, Pd.tyOfD, Pd.asB, Pd.notV, Pd.chainM, Pd.op2M, Pd.leD, Pd.ltD, Pd.gtD, Pd.geD, Pd.intD, Pd.retM, Pd.outOf, Pd.ownAt, Pd.bltM, Pd.vals, Pd.lenD, Pd.consM, Pd.callM, Pd.ownSlots, Pd.svsOf, Pd.svOf, Pd.setOwn, Pd.nxS, Pd.setM, isOwn_zero, isOwn_succ, isOwn_nil, isOD_zero, isOD_succ, isOD_nil, ownB_free, mrg_free, Pd.wipeE, mergeE_nil, mergeE_cons, Pd.fldM, Pd.fldOf, fl_rooms, fl_sizes, fl_zones, fl_far, fl_alive, fl_apart, Pd.siM, Pd.seqOf, Pd.asgS, Pd.setS, Pd.dropS, isiCM]
def isP (c : Cl) (p : List (List Int)) : Bool := p.all (mayLie c) && fits c p
theorem v_is_placing (A : Ads) (c : Cl) (p : List (List Int)) (hc : OkC c) (h : Wild c p) : F_is_placing A [.obj A.C (fl c), .da (eP p)] = some (.ret (.da (.bool (isP c p))) []) := by
  have hl : p.length ≤ LIM := by rw [h.len]; have := hc.sl; unfold LIM; omega
  have w0 : c0_is_placing A [some (.obj A.C (fl c)), some (.da (eP p)), none] = some (.ok (.da (.list (p.map fun _ => .bool true))) [some (.obj A.C (fl c)), some (.da (eP p)), none]) := by
    unfold c0_is_placing
    rw [lcM_tl tupI (l := p) (fun _ => some (.bool true)) (by rfl) hl (fun ms hm => ?_), filterMap_some]
    have := v_is_ascending A ms c.rooms.length (h.asc ms hm)
    unfold stepV
    simp [Pd.runN, Pd.runF, Pd.seqS, Pd.ifS, Pd.retS, Pd.withE, Pd.andV, Pd.orV, Pd.boolM, Pd.notM, Pd.andM, Pd.orM, Pd.ifM, Pd.isiM, Pd.bindM, Pd.varM, Pd.liftO, Pd.isiD, Pd.tyOfD, Pd.asB, Pd.notV, Pd.chainM, Pd.op2M, Pd.leD, Pd.ltD, Pd.gtD, Pd.geD, Pd.intD, Pd.retM, Pd.outOf, Pd.ownAt, Pd.bltM, Pd.vals, Pd.lenD, Pd.consM, Pd.callM, Pd.ownSlots, Pd.svsOf, Pd.svOf, Pd.setOwn, Pd.nxS, Pd.setM, isOwn_zero, isOwn_succ, isOwn_nil, isOD_zero, isOD_succ, isOD_nil, ownB_free, mrg_free, Pd.wipeE, mergeE_nil, mergeE_cons, Pd.fldM, Pd.fldOf, fl_rooms, fl_sizes, fl_zones, fl_far, fl_alive, fl_apart, Pd.siM, Pd.seqOf, Pd.asgS, Pd.setS, Pd.dropS, this]
  have w1 : c1_is_placing A [some (.obj A.C (fl c)), some (.da (eP p)), none] = some (.ok (.da (.list (p.map fun ms => .bool (mayLie c ms)))) [some (.obj A.C (fl c)), some (.da (eP p)), none]) := by
    unfold c1_is_placing
    rw [lcM_tl tupI (l := p) (fun ms => some (.bool (mayLie c ms))) (by rfl) hl (fun ms hm => ?_), filterMap_some]
    have := v_may_lie A c ms hc.zl (h.ok.rng ms hm) (h.sm ms hm)
    unfold stepV
    simp [Pd.runN, Pd.runF, Pd.seqS, Pd.ifS, Pd.retS, Pd.withE, Pd.andV, Pd.orV, Pd.boolM, Pd.notM, Pd.andM, Pd.orM, Pd.ifM, Pd.isiM, Pd.bindM, Pd.varM, Pd.liftO, Pd.isiD, Pd.tyOfD, Pd.asB, Pd.notV, Pd.chainM, Pd.op2M, Pd.leD, Pd.ltD, Pd.gtD, Pd.geD, Pd.intD, Pd.retM, Pd.outOf, Pd.ownAt, Pd.bltM, Pd.vals, Pd.lenD, Pd.consM, Pd.callM, Pd.ownSlots, Pd.svsOf, Pd.svOf, Pd.setOwn, Pd.nxS, Pd.setM, isOwn_zero, isOwn_succ, isOwn_nil, isOD_zero, isOD_succ, isOD_nil, ownB_free, mrg_free, Pd.wipeE, mergeE_nil, mergeE_cons, Pd.fldM, Pd.fldOf, fl_rooms, fl_sizes, fl_zones, fl_far, fl_alive, fl_apart, Pd.siM, Pd.seqOf, Pd.asgS, Pd.setS, Pd.dropS, this]
  have wf := v_fits A c p h.ok (by have := hc.rl; omega)
  have a0 := allD_map (fun _ : List Int => true) p
  have a1 := allD_map (mayLie c) p
  have hlen := h.len
  unfold F_is_placing g_is_placing isP
  unfold eP at *
  cases hm : p.all (mayLie c) <;> simp [Pd.runN, Pd.runF, Pd.seqS, Pd.ifS, Pd.retS, Pd.withE, Pd.andV, Pd.orV, Pd.boolM, Pd.notM, Pd.andM, Pd.orM, Pd.ifM, Pd.isiM, Pd.bindM, Pd.varM, Pd.liftO, Pd.isiD, Pd.tyOfD, Pd.asB, Pd.notV, Pd.chainM, Pd.op2M, Pd.leD, Pd.ltD, Pd.gtD, Pd.geD, Pd.intD, Pd.retM, Pd.outOf, Pd.ownAt, Pd.bltM, Pd.vals, Pd.lenD, Pd.consM, Pd.callM, Pd.ownSlots, Pd.svsOf, Pd.svOf, Pd.setOwn, Pd.nxS, Pd.setM, isOwn_zero, isOwn_succ, isOwn_nil, isOD_zero, isOD_succ, isOD_nil, ownB_free, mrg_free, Pd.wipeE, mergeE_nil, mergeE_cons, Pd.fldM, Pd.fldOf, fl_rooms, fl_sizes, fl_zones, fl_far, fl_alive, fl_apart, Pd.siM, Pd.seqOf, Pd.asgS, Pd.setS, Pd.dropS, kb3, v_check_cluster, w0, w1, wf, a0, a1, hm, neD_int, hlen]
end K01
end
section
set_option Elab.async false
set_option linter.all false
set_option maxRecDepth 100000
set_option maxHeartbeats 4000000
namespace K01
open PySem Pd
/-! ### all placings, by depth -/
def subs (n : Nat) : List (List Int) := if n = 2 then [[], [0], [0, 1], [1]] else [[], [0], [0, 1], [0, 1, 2], [0, 2], [1], [1, 2], [2]]
theorem v_subsets (A : Ads) (n : Nat) (h : n = 2 ∨ n = 3) : F_subsets A [.da (.int n)] = some (.ret (.da (.list ((subs n).map tupI))) []) := by
  rcases h with rfl | rfl
  · rfl
  · rfl
theorem subs_asc {n : Nat} (h : n = 2 ∨ n = 3) {ms : List Int} (hm : ms ∈ subs n) : Asc n 0 ms ∧ ms.length ≤ 60 := by
  rcases h with rfl | rfl
  · simp only [subs, if_true, List.mem_cons, List.not_mem_nil, or_false] at hm
    rcases hm with rfl | rfl | rfl | rfl <;> simp [Asc]
  · simp only [subs, show ¬ (3 : Nat) = 2 by decide, if_false, List.mem_cons, List.not_mem_nil, or_false] at hm
    rcases hm with rfl | rfl | rfl | rfl | rfl | rfl | rfl | rfl <;> simp [Asc]
def ch (c : Cl) : List (List Int) := (subs c.rooms.length).filter (mayLie c)
theorem OkC.n23 {c : Cl} (h : OkC c) : c.rooms.length = 2 ∨ c.rooms.length = 3 := by have := h.rl; omega
theorem ch_asc {c : Cl} (h : OkC c) {ms : List Int} (hm : ms ∈ ch c) : Asc c.rooms.length 0 ms ∧ ms.length ≤ 60 := subs_asc h.n23 (List.mem_filter.mp hm).1
theorem ch_len {c : Cl} (h : OkC c) : (ch c).length ≤ 8 := by
  refine Nat.le_trans (List.length_filter_le _ _) ?_
  rcases h.n23 with e | e <;> rw [e] <;> simp [subs]
theorem filterMap_ite {α β : Type} (p : α → Bool) (f : α → β) (l : List α) : l.filterMap (fun a => if p a = true then some (f a) else none) = (l.filter p).map f := by
  induction l with
  | nil => rfl
  | cons a l ih => cases h : p a <;> simp [h, ih]
theorem v_choices (A : Ads) (c : Cl) (hc : OkC c) : F__choices A [.obj A.C (fl c)] = some (.ret (.da (.list ((ch c).map tupI))) []) := by
  have vs := v_subsets A c.rooms.length hc.n23
  have w : c0__choices A [some (.obj A.C (fl c)), none] = some (.ok (.da (.list ((ch c).map tupI))) [some (.obj A.C (fl c)), none]) := by
    unfold c0__choices
    rw [lcM_tl tupI (l := subs c.rooms.length) (fun ms => if mayLie c ms = true then some (tupI ms) else none) ?_ ?_ (fun ms hm => ?_), filterMap_ite]
    · rfl
    · simp [Pd.runN, Pd.runF, Pd.seqS, Pd.ifS, Pd.retS, Pd.withE, Pd.andV, Pd.orV, Pd.boolM, Pd.notM, Pd.andM, Pd.orM, Pd.ifM, Pd.isiM, Pd.bindM, Pd.varM, Pd.liftO, Pd.isiD, Pd.tyOfD, Pd.asB, Pd.notV, Pd.chainM, Pd.op2M, Pd.leD, Pd.ltD, Pd.gtD, Pd.geD, Pd.intD, Pd.retM, Pd.outOf, Pd.ownAt, Pd.bltM, Pd.vals, Pd.lenD, Pd.consM, Pd.callM, Pd.ownSlots, Pd.svsOf, Pd.svOf, Pd.setOwn, Pd.nxS, Pd.setM, isOwn_zero, isOwn_succ, isOwn_nil, isOD_zero, isOD_succ, isOD_nil, ownB_free, mrg_free, Pd.wipeE, mergeE_nil, mergeE_cons, Pd.fldM, Pd.fldOf, fl_rooms, fl_sizes, fl_zones, fl_far, fl_alive, fl_apart, Pd.siM, Pd.seqOf, Pd.asgS, Pd.setS, Pd.dropS, vs]
    · rcases hc.n23 with e | e <;> rw [e] <;> simp [subs, LIM]
    · have ha := subs_asc hc.n23 hm
      have := v_may_lie A c ms hc.zl (asc_nd ha.1).1 ha.2
      unfold stepV
      cases hml : mayLie c ms <;> simp [Pd.runN, Pd.runF, Pd.seqS, Pd.ifS, Pd.retS, Pd.withE, Pd.andV, Pd.orV, Pd.boolM, Pd.notM, Pd.andM, Pd.orM, Pd.ifM, Pd.isiM, Pd.bindM, Pd.varM, Pd.liftO, Pd.isiD, Pd.tyOfD, Pd.asB, Pd.notV, Pd.chainM, Pd.op2M, Pd.leD, Pd.ltD, Pd.gtD, Pd.geD, Pd.intD, Pd.retM, Pd.outOf, Pd.ownAt, Pd.bltM, Pd.vals, Pd.lenD, Pd.consM, Pd.callM, Pd.ownSlots, Pd.svsOf, Pd.svOf, Pd.setOwn, Pd.nxS, Pd.setM, isOwn_zero, isOwn_succ, isOwn_nil, isOD_zero, isOD_succ, isOD_nil, ownB_free, mrg_free, Pd.wipeE, mergeE_nil, mergeE_cons, Pd.fldM, Pd.fldOf, fl_rooms, fl_sizes, fl_zones, fl_far, fl_alive, fl_apart, Pd.siM, Pd.seqOf, Pd.asgS, Pd.setS, Pd.dropS, this, hml]
  unfold F__choices g__choices
  simp [Pd.runN, Pd.runF, Pd.seqS, Pd.ifS, Pd.retS, Pd.withE, Pd.andV, Pd.orV, Pd.boolM, Pd.notM, Pd.andM, Pd.orM, Pd.ifM, Pd.isiM, Pd.bindM, Pd.varM, Pd.liftO, Pd.isiD, Pd.tyOfD, Pd.asB, Pd.notV, Pd.chainM, Pd.op2M, Pd.leD, Pd.ltD, Pd.gtD, Pd.geD, Pd.intD, Pd.retM, Pd.outOf, Pd.ownAt, Pd.bltM, Pd.vals, Pd.lenD, Pd.consM, Pd.callM, Pd.ownSlots, Pd.svsOf, Pd.svOf, Pd.setOwn, Pd.nxS, Pd.setM, isOwn_zero, isOwn_succ, isOwn_nil, isOD_zero, isOD_succ, isOD_nil, ownB_free, mrg_free, Pd.wipeE, mergeE_nil, mergeE_cons, Pd.fldM, Pd.fldOf, fl_rooms, fl_sizes, fl_zones, fl_far, fl_alive, fl_apart, Pd.siM, Pd.seqOf, Pd.asgS, Pd.setS, Pd.dropS, w]
theorem zip_snoc : ∀ (ss : List Int) (p : List (List Int)) (ms : List Int) (h : p.length < ss.length), ss.zip (p ++ [ms]) = ss.zip p ++ [(ss[p.length], ms)]
  | [], p, ms, h => by simp at h
  | s :: ss, [], ms, h => by simp
  | s :: ss, q :: p, ms, h => by
    have := zip_snoc ss p ms (by simpa using h)
    simp [this]
theorem hl_snoc {c : Cl} {p : List (List Int)} (ms : List Int) (h : p.length < c.sizes.length) (i : Int) : hl c (p ++ [ms]) i = hl c p i + if i ∈ ms then c.sizes[p.length] else 0 := by
  unfold hl
  rw [zip_snoc _ _ _ h]
  simp
def room (c : Cl) (i : Int) : Int := (c.rooms[i.toNat]?).getD 0
theorem rooms_ns (c : Cl) : c.rooms = (ns c.rooms.length).map (room c) := by
  apply List.ext_getElem?
  intro i
  by_cases hi : i < c.rooms.length
  · rw [List.getElem?_map, ns_get hi]
    simp [room, List.getElem?_eq_getElem hi]
  · rw [List.getElem?_eq_none (by omega), List.getElem?_eq_none (by simp [ns_len]; omega)]
theorem fits_iff {c : Cl} {p : List (List Int)} : fits c p = true ↔ ∀ i ∈ ns c.rooms.length, hl c p i ≤ room c i := by
  unfold fits loads
  have e : ((ns c.rooms.length).map (hl c p)).zip c.rooms = (ns c.rooms.length).map fun i => (hl c p i, room c i) := by
    conv => lhs; rw [rooms_ns c]
    rw [List.length_map, ns_len]
    rw [List.zip_map']
  rw [e]
  simp [List.all_map]
def dfs (c : Cl) : Nat → List (List Int) → List (List (List Int))
  | 0, p => [p]
  | r + 1, p => (ch c).flatMap fun ms => if fits c (p ++ [ms]) = true then dfs c r (p ++ [ms]) else []
theorem dfs_len {c : Cl} (h : OkC c) : ∀ r p, (dfs c r p).length ≤ 8 ^ r
  | 0, p => by simp [dfs]
  | r + 1, p => by
    unfold dfs
    have : ∀ l : List (List Int), (l.flatMap fun ms => if fits c (p ++ [ms]) = true then dfs c r (p ++ [ms]) else []).length ≤ l.length * 8 ^ r := by
      intro l
      induction l with
      | nil => simp
      | cons ms l ih =>
        rw [List.flatMap_cons, List.length_append, List.length_cons, Nat.succ_mul]
        have h1 : (if fits c (p ++ [ms]) = true then dfs c r (p ++ [ms]) else []).length ≤ 8 ^ r := by
          split
          · exact dfs_len h r _
          · simp
        omega
    refine Nat.le_trans (this _) ?_
    rw [Nat.pow_succ, Nat.mul_comm]
    exact Nat.mul_le_mul_left _ (ch_len h)
end K01
end
section
set_option Elab.async false
set_option linter.all false
set_option maxRecDepth 100000
set_option maxHeartbeats 4000000
namespace K01
open PySem Pd
theorem enumL_ns (n : Nat) (f : Int → Int) : enumL (((ns n).map f).map .int) = (ns n).map fun i => PyData.tuple [.int i, .int (f i)] := by
  unfold enumL ns
  apply List.ext_getElem?
  intro i
  by_cases hi : i < n
  · simp [List.getElem?_mapIdx, hi]
  · rw [List.getElem?_eq_none (by simp; omega), List.getElem?_eq_none (by simp; omega)]
theorem minL_ge {l : List Int} (h : l ≠ []) : ∃ m, minL l = some m ∧ (0 ≤ m ↔ ∀ x ∈ l, 0 ≤ x) := by
  cases l with
  | nil => exact absurd rfl h
  | cons a l =>
    refine ⟨l.foldl min a, rfl, ?_⟩
    obtain ⟨h1, h2⟩ := foldl_min_le l a
    constructor
    · intro h0 x hx
      rcases List.mem_cons.mp hx with rfl | hx
      · omega
      · have := h2 x hx; omega
    · intro hx
      rcases foldl_min_mem l a with e | e
      · rw [e]; exact hx a (.head _)
      · exact hx _ (.tail _ e)
def freeL (c : Cl) (p : List (List Int)) : List Int := (ns c.rooms.length).map fun i => room c i - hl c p i
theorem w0_collect (A : Ads) (Fs : List SV → Option Res) (c : Cl) (p : List (List Int)) (ms : List Int) (fd x2 : PyData) (found : List PyData) (z7 : Option SV) (hz : free z7 = true) (hf : seqOf (.da fd) = some ((freeL c p).map .int)) (hp : p.length < c.sizes.length) (hn : c.rooms.length ≤ 1000) :
    c0__collect A Fs [some (.obj A.C (fl c)), some (.da x2), some (.da (eP p)), some (.da fd), some (.own found), some (.da (.int c.sizes[p.length])), some (.da (tupI ms)), z7, none, none] =
      some (.ok (.da (.list ((freeL c (p ++ [ms])).map .int))) [some (.obj A.C (fl c)), some (.da x2), some (.da (eP p)), some (.da fd), some (.own found), some (.da (.int c.sizes[p.length])), some (.da (tupI ms)), z7, none, none]) := by
  unfold c0__collect
  rw [lcM_tl (fun i : Int => PyData.tuple [.int i, .int (room c i - hl c p i)]) (l := ns c.rooms.length) (fun i => some (.int (room c i - hl c (p ++ [ms]) i))) ?_ (by rw [ns_len]; unfold LIM; omega) (fun i hi => ?_), filterMap_some]
  · unfold freeL
    rw [List.map_map]
    rfl
  · have e := enumL_ns c.rooms.length (fun i => room c i - hl c p i)
    rw [List.map_map] at e
    have hfd : fd = .list ((freeL c p).map .int) ∨ fd = .tuple ((freeL c p).map .int) := by
      cases fd <;> simp [seqOf] at hf <;> simp [hf]
    unfold freeL at hfd
    rw [List.map_map] at hfd
    rcases hfd with rfl | rfl <;> simp [Pd.runN, Pd.runF, Pd.seqS, Pd.ifS, Pd.retS, Pd.withE, Pd.andV, Pd.orV, Pd.boolM, Pd.notM, Pd.andM, Pd.orM, Pd.ifM, Pd.isiM, Pd.bindM, Pd.varM, Pd.liftO, Pd.isiD, Pd.tyOfD, Pd.asB, Pd.notV, Pd.chainM, Pd.op2M, Pd.leD, Pd.ltD, Pd.gtD, Pd.geD, Pd.intD, Pd.retM, Pd.outOf, Pd.ownAt, Pd.bltM, Pd.vals, Pd.lenD, Pd.consM, Pd.callM, Pd.ownSlots, Pd.svsOf, Pd.svOf, Pd.setOwn, Pd.nxS, Pd.setM, isOwn_zero, isOwn_succ, isOwn_nil, isOD_zero, isOD_succ, isOD_nil, ownB_free, mrg_free, Pd.wipeE, mergeE_nil, mergeE_cons, Pd.fldM, Pd.fldOf, fl_rooms, fl_sizes, fl_zones, fl_far, fl_alive, fl_apart, Pd.siM, Pd.seqOf, Pd.asgS, Pd.setS, Pd.dropS, eiM, e]
  · have hm : (ms.contains i) = decide (i ∈ ms) := by simp
    unfold stepV
    unfold tupI
    by_cases h : i ∈ ms
    · simp [Pd.runN, Pd.runF, Pd.seqS, Pd.ifS, Pd.retS, Pd.withE, Pd.andV, Pd.orV, Pd.boolM, Pd.notM, Pd.andM, Pd.orM, Pd.ifM, Pd.isiM, Pd.bindM, Pd.varM, Pd.liftO, Pd.isiD, Pd.tyOfD, Pd.asB, Pd.notV, Pd.chainM, Pd.op2M, Pd.leD, Pd.ltD, Pd.gtD, Pd.geD, Pd.intD, Pd.retM, Pd.outOf, Pd.ownAt, Pd.bltM, Pd.vals, Pd.lenD, Pd.consM, Pd.callM, Pd.ownSlots, Pd.svsOf, Pd.svOf, Pd.setOwn, Pd.nxS, Pd.setM, isOwn_zero, isOwn_succ, isOwn_nil, isOD_zero, isOD_succ, isOD_nil, ownB_free, mrg_free, Pd.wipeE, mergeE_nil, mergeE_cons, Pd.fldM, Pd.fldOf, fl_rooms, fl_sizes, fl_zones, fl_far, fl_alive, fl_apart, Pd.siM, Pd.seqOf, Pd.asgS, Pd.setS, Pd.dropS, tupG, consG, nilG, inD, intsOf_map, hm, h, hl_snoc ms hp i, hz]
      omega
    · simp [Pd.runN, Pd.runF, Pd.seqS, Pd.ifS, Pd.retS, Pd.withE, Pd.andV, Pd.orV, Pd.boolM, Pd.notM, Pd.andM, Pd.orM, Pd.ifM, Pd.isiM, Pd.bindM, Pd.varM, Pd.liftO, Pd.isiD, Pd.tyOfD, Pd.asB, Pd.notV, Pd.chainM, Pd.op2M, Pd.leD, Pd.ltD, Pd.gtD, Pd.geD, Pd.intD, Pd.retM, Pd.outOf, Pd.ownAt, Pd.bltM, Pd.vals, Pd.lenD, Pd.consM, Pd.callM, Pd.ownSlots, Pd.svsOf, Pd.svOf, Pd.setOwn, Pd.nxS, Pd.setM, isOwn_zero, isOwn_succ, isOwn_nil, isOD_zero, isOD_succ, isOD_nil, ownB_free, mrg_free, Pd.wipeE, mergeE_nil, mergeE_cons, Pd.fldM, Pd.fldOf, fl_rooms, fl_sizes, fl_zones, fl_far, fl_alive, fl_apart, Pd.siM, Pd.seqOf, Pd.asgS, Pd.setS, Pd.dropS, tupG, consG, nilG, inD, intsOf_map, hm, h, hl_snoc ms hp i, hz]
theorem v_collect (A : Ads) (c : Cl) (hc : OkC c) : ∀ (r k : Nat) (p : List (List Int)) (fd : PyData) (found : List PyData), p.length + r = c.sizes.length → r < k → seqOf (.da fd) = some ((freeL c p).map .int) → found.length + (dfs c r p).length ≤ 2000 →
    F__collect A k [.obj A.C (fl c), .da (.list ((ch c).map tupI)), .da (eP p), .da fd, .own found] = some (.ret (.da .none) (found ++ (dfs c r p).map eP))
  | r, 0, p, fd, found, _, h, _, _ => absurd h (Nat.not_lt_zero _)
  | 0, k + 1, p, fd, found, hl', _, hf, hb => by
    have hl2 : p.length = c.sizes.length := by omega
    have hne : ¬ ((found.length : Int) = 2000) := by
      simp [dfs] at hb; omega
    have hlim : found.length < LIM := by
      simp [dfs] at hb; unfold LIM; omega
    unfold F__collect g__collect
    unfold eP
    simp [Pd.runN, Pd.runF, Pd.seqS, Pd.ifS, Pd.retS, Pd.withE, Pd.andV, Pd.orV, Pd.boolM, Pd.notM, Pd.andM, Pd.orM, Pd.ifM, Pd.isiM, Pd.bindM, Pd.varM, Pd.liftO, Pd.isiD, Pd.tyOfD, Pd.asB, Pd.notV, Pd.chainM, Pd.op2M, Pd.leD, Pd.ltD, Pd.gtD, Pd.geD, Pd.intD, Pd.retM, Pd.outOf, Pd.ownAt, Pd.bltM, Pd.vals, Pd.lenD, Pd.consM, Pd.callM, Pd.ownSlots, Pd.svsOf, Pd.svOf, Pd.setOwn, Pd.nxS, Pd.setM, isOwn_zero, isOwn_succ, isOwn_nil, isOD_zero, isOD_succ, isOD_nil, ownB_free, mrg_free, Pd.wipeE, mergeE_nil, mergeE_cons, Pd.fldM, Pd.fldOf, fl_rooms, fl_sizes, fl_zones, fl_far, fl_alive, fl_apart, Pd.siM, Pd.seqOf, Pd.asgS, Pd.setS, Pd.dropS, eqD_int, hl2, ownLenM, hne, appS, hlim, retNS, dfs]
  | r + 1, k + 1, p, fd, found, hl', hk, hf, hb => by
    have hlt : p.length < c.sizes.length := by omega
    have hne : ¬ (p.length = c.sizes.length) := by omega
    have hn : c.rooms.length ≤ 1000 := by have := hc.rl; omega
    have hix : L2.atI c.sizes (p.length : Int) = some c.sizes[p.length] := by
      rw [atI_nn (by omega)]
      simp [hlt]
    have loop : ∃ e, c1__collect A (F__collect A k) [some (.obj A.C (fl c)), some (.da (.list ((ch c).map tupI))), some (.da (eP p)), some (.da fd), some (.own found), some (.da (.int c.sizes[p.length])), none, none, none, none] = some (.nx e) ∧
        ∃ z6 z7, free z6 = true ∧ free z7 = true ∧ e = [some (.obj A.C (fl c)), some (.da (.list ((ch c).map tupI))), some (.da (eP p)), some (.da fd), some (.own (found ++ (dfs c (r + 1) p).map eP)), some (.da (.int c.sizes[p.length])), z6, z7, none, none] := by
      unfold c1__collect
      refine forS_inv tupI (l := ch c) (fun done e => ∃ z6 z7, free z6 = true ∧ free z7 = true ∧ e = [some (.obj A.C (fl c)), some (.da (.list ((ch c).map tupI))), some (.da (eP p)), some (.da fd), some (.own (found ++ (done.flatMap fun ms => if fits c (p ++ [ms]) = true then dfs c r (p ++ [ms]) else []).map eP)), some (.da (.int c.sizes[p.length])), z6, z7, none, none]) (by rfl) ⟨none, none, rfl, rfl, by simp⟩ (fun done ms rest env hd hp => ?_)
      obtain ⟨z6, z7, h6, h7, rfl⟩ := hp
      generalize hF : found ++ (done.flatMap fun ms => if fits c (p ++ [ms]) = true then dfs c r (p ++ [ms]) else []).map eP = F1
      have hms : ms ∈ ch c := by rw [← hd]; simp
      have w0 := w0_collect A (F__collect A k) c p ms fd (.list ((ch c).map tupI)) F1 z7 h7 hf hlt hn
      have hnil : freeL c (p ++ [ms]) ≠ [] := by
        unfold freeL
        intro e
        have h0 := congrArg List.length e
        rw [List.length_map, ns_len] at h0
        have h1 := hc.rl
        have h0 : c.rooms.length = 0 := h0
        omega
      obtain ⟨m, hm1, hm2⟩ := minL_ge hnil
      have hfit : (0 ≤ m) ↔ fits c (p ++ [ms]) = true := by
        rw [hm2, fits_iff]
        unfold freeL
        simp only [List.mem_map, forall_exists_index, and_imp, forall_apply_eq_imp_iff₂]
        constructor
        · intro h i hi; have := h i hi; omega
        · intro h i hi; have := h i hi; omega
      have hcat : p.length + 1 ≤ LIM := by have := hc.sl; unfold LIM; omega
      have hset : setM 6 (.da (tupI ms)) [some (.obj A.C (fl c)), some (.da (.list ((ch c).map tupI))), some (.da (eP p)), some (.da fd), some (.own F1), some (.da (.int c.sizes[p.length])), z6, z7, none, none] = some (.ok () [some (.obj A.C (fl c)), some (.da (.list ((ch c).map tupI))), some (.da (eP p)), some (.da fd), some (.own F1), some (.da (.int c.sizes[p.length])), some (.da (tupI ms)), z7, none, none]) := by simp [Pd.runN, Pd.runF, Pd.seqS, Pd.ifS, Pd.retS, Pd.withE, Pd.andV, Pd.orV, Pd.boolM, Pd.notM, Pd.andM, Pd.orM, Pd.ifM, Pd.isiM, Pd.bindM, Pd.varM, Pd.liftO, Pd.isiD, Pd.tyOfD, Pd.asB, Pd.notV, Pd.chainM, Pd.op2M, Pd.leD, Pd.ltD, Pd.gtD, Pd.geD, Pd.intD, Pd.retM, Pd.outOf, Pd.ownAt, Pd.bltM, Pd.vals, Pd.lenD, Pd.consM, Pd.callM, Pd.ownSlots, Pd.svsOf, Pd.svOf, Pd.setOwn, Pd.nxS, Pd.setM, isOwn_zero, isOwn_succ, isOwn_nil, isOD_zero, isOD_succ, isOD_nil, ownB_free, mrg_free, Pd.wipeE, mergeE_nil, mergeE_cons, Pd.fldM, Pd.fldOf, fl_rooms, fl_sizes, fl_zones, fl_far, fl_alive, fl_apart, Pd.siM, Pd.seqOf, Pd.asgS, Pd.setS, Pd.dropS, h6]
      have hmin : minD1 [.da (.list ((freeL c (p ++ [ms])).map .int))] = some (.da (.int m)) := by
        show ((intsOf ((freeL c (p ++ [ms])).map .int)).bind fun ns => ((minL ns).map PyData.int).map SV.da) = _
        rw [intsOf_map]
        simp [hm1]
      cases hfc : fits c (p ++ [ms]) with
      | false =>
        have h0 : ¬ (0 ≤ m) := fun z => by rw [hfit.mp z] at hfc; cases hfc
        refine ⟨_, _, hset, .inl (by simp [Pd.runN, Pd.runF, Pd.seqS, Pd.ifS, Pd.retS, Pd.withE, Pd.andV, Pd.orV, Pd.boolM, Pd.notM, Pd.andM, Pd.orM, Pd.ifM, Pd.isiM, Pd.bindM, Pd.varM, Pd.liftO, Pd.isiD, Pd.tyOfD, Pd.asB, Pd.notV, Pd.chainM, Pd.op2M, Pd.leD, Pd.ltD, Pd.gtD, Pd.geD, Pd.intD, Pd.retM, Pd.outOf, Pd.ownAt, Pd.bltM, Pd.vals, Pd.lenD, Pd.consM, Pd.callM, Pd.ownSlots, Pd.svsOf, Pd.svOf, Pd.setOwn, Pd.nxS, Pd.setM, isOwn_zero, isOwn_succ, isOwn_nil, isOD_zero, isOD_succ, isOD_nil, ownB_free, mrg_free, Pd.wipeE, mergeE_nil, mergeE_cons, Pd.fldM, Pd.fldOf, fl_rooms, fl_sizes, fl_zones, fl_far, fl_alive, fl_apart, Pd.siM, Pd.seqOf, Pd.asgS, Pd.setS, Pd.dropS, w0, hmin, h0, h7]; rfl), some (.da (tupI ms)), some (.da (.list ((freeL c (p ++ [ms])).map .int))), rfl, rfl, ?_⟩
        simp [← hF, hfc]
      | true =>
        have h0 : 0 ≤ m := hfit.mpr hfc
        have hsub : F1.length + (dfs c r (p ++ [ms])).length ≤ 2000 := by
          have e1 : dfs c (r + 1) p = (ch c).flatMap fun ms => if fits c (p ++ [ms]) = true then dfs c r (p ++ [ms]) else [] := rfl
          rw [e1, ← hd, List.flatMap_append, List.flatMap_cons, if_pos hfc] at hb
          rw [← hF]
          simp only [List.length_append, List.length_map] at hb ⊢
          omega
        have rec_ := v_collect A c hc r k (p ++ [ms]) (.list ((freeL c (p ++ [ms])).map .int)) F1 (by simp; omega) (by omega) rfl hsub
        have eadd : PyData.tuple (p.map tupI ++ [tupI ms]) = eP (p ++ [ms]) := by unfold eP; simp
        refine ⟨_, [some (.obj A.C (fl c)), some (.da (.list ((ch c).map tupI))), some (.da (eP p)), some (.da fd), some (.own (F1 ++ (dfs c r (p ++ [ms])).map eP)), some (.da (.int c.sizes[p.length])), some (.da (tupI ms)), some (.da (.list ((freeL c (p ++ [ms])).map .int))), none, none], hset, .inl ?_, some (.da (tupI ms)), some (.da (.list ((freeL c (p ++ [ms])).map .int))), rfl, rfl, ?_⟩
        · have ha : addD (.da (eP p)) (.da (.tuple [tupI ms])) = some (.da (eP (p ++ [ms]))) := by
            unfold eP addD
            simp [hcat]
          simp [Pd.runN, Pd.runF, Pd.seqS, Pd.ifS, Pd.retS, Pd.withE, Pd.andV, Pd.orV, Pd.boolM, Pd.notM, Pd.andM, Pd.orM, Pd.ifM, Pd.isiM, Pd.bindM, Pd.varM, Pd.liftO, Pd.isiD, Pd.tyOfD, Pd.asB, Pd.notV, Pd.chainM, Pd.op2M, Pd.leD, Pd.ltD, Pd.gtD, Pd.geD, Pd.intD, Pd.retM, Pd.outOf, Pd.ownAt, Pd.bltM, Pd.vals, Pd.lenD, Pd.consM, Pd.callM, Pd.ownSlots, Pd.svsOf, Pd.svOf, Pd.setOwn, Pd.nxS, Pd.setM, isOwn_zero, isOwn_succ, isOwn_nil, isOD_zero, isOD_succ, isOD_nil, ownB_free, mrg_free, Pd.wipeE, mergeE_nil, mergeE_cons, Pd.fldM, Pd.fldOf, fl_rooms, fl_sizes, fl_zones, fl_far, fl_alive, fl_apart, Pd.siM, Pd.seqOf, Pd.asgS, Pd.setS, Pd.dropS, w0, hmin, h0, h7, tupM, datas, ha, ownM, chkM, rec_]
        · simp [← hF, hfc]
    obtain ⟨e, he, z6, z7, _, _, rfl⟩ := loop
    have ep : eP p = .tuple (p.map tupI) := rfl
    unfold F__collect g__collect
    rw [ep] at he ⊢
    simp [Pd.runN, Pd.runF, Pd.seqS, Pd.ifS, Pd.retS, Pd.withE, Pd.andV, Pd.orV, Pd.boolM, Pd.notM, Pd.andM, Pd.orM, Pd.ifM, Pd.isiM, Pd.bindM, Pd.varM, Pd.liftO, Pd.isiD, Pd.tyOfD, Pd.asB, Pd.notV, Pd.chainM, Pd.op2M, Pd.leD, Pd.ltD, Pd.gtD, Pd.geD, Pd.intD, Pd.retM, Pd.outOf, Pd.ownAt, Pd.bltM, Pd.vals, Pd.lenD, Pd.consM, Pd.callM, Pd.ownSlots, Pd.svsOf, Pd.svOf, Pd.setOwn, Pd.nxS, Pd.setM, isOwn_zero, isOwn_succ, isOwn_nil, isOD_zero, isOD_succ, isOD_nil, ownB_free, mrg_free, Pd.wipeE, mergeE_nil, mergeE_cons, Pd.fldM, Pd.fldOf, fl_rooms, fl_sizes, fl_zones, fl_far, fl_alive, fl_apart, Pd.siM, Pd.seqOf, Pd.asgS, Pd.setS, Pd.dropS, eqD_int, ownLenM, hne, Int.natCast_inj, ixD, atI_map, hix, he]
end K01
end
section
set_option Elab.async false
set_option linter.all false
set_option maxRecDepth 100000
set_option maxHeartbeats 4000000
namespace K01
open PySem Pd
theorem hl_nil (c : Cl) (i : Int) : hl c [] i = 0 := by unfold hl; simp
theorem freeL_nil (c : Cl) : freeL c [] = c.rooms := by
  unfold freeL
  conv => rhs; rw [rooms_ns c]
  apply List.map_congr_left
  intro i _
  rw [hl_nil]; omega
def allP (c : Cl) : List (List (List Int)) := dfs c c.sizes.length []
theorem pow8 : ∀ n : Nat, n ≤ 3 → 8 ^ n ≤ 512
  | 0, _ => by decide
  | 1, _ => by decide
  | 2, _ => by decide
  | 3, _ => by decide
  | n + 4, h => by omega
theorem allP_len {c : Cl} (hc : OkC c) : (allP c).length ≤ 512 := Nat.le_trans (dfs_len hc _ _) (pow8 _ hc.sl.2)
theorem v_placings (A : Ads) (c : Cl) (hc : OkC c) : F_placings A [.obj A.C (fl c)] = some (.ret (.da (.list ((allP c).map eP))) []) := by
  have h1 := v_check_cluster A c
  have h2 := v_choices A c hc
  have h3 := v_collect A c hc c.sizes.length 6 [] (.tuple (c.rooms.map .int)) [] (by simp) (by have := hc.sl; omega) (by rw [freeL_nil]; rfl) (by
    have := allP_len hc
    unfold allP at this
    simp; omega)
  have e0 : eP [] = .tuple [] := rfl
  rw [e0] at h3
  unfold F_placings g_placings allP
  simp [Pd.runN, Pd.runF, Pd.seqS, Pd.ifS, Pd.retS, Pd.withE, Pd.andV, Pd.orV, Pd.boolM, Pd.notM, Pd.andM, Pd.orM, Pd.ifM, Pd.isiM, Pd.bindM, Pd.varM, Pd.liftO, Pd.isiD, Pd.tyOfD, Pd.asB, Pd.notV, Pd.chainM, Pd.op2M, Pd.leD, Pd.ltD, Pd.gtD, Pd.geD, Pd.intD, Pd.retM, Pd.outOf, Pd.ownAt, Pd.bltM, Pd.vals, Pd.lenD, Pd.consM, Pd.callM, Pd.ownSlots, Pd.svsOf, Pd.svOf, Pd.setOwn, Pd.nxS, Pd.setM, isOwn_zero, isOwn_succ, isOwn_nil, isOD_zero, isOD_succ, isOD_nil, ownB_free, mrg_free, Pd.wipeE, mergeE_nil, mergeE_cons, Pd.fldM, Pd.fldOf, fl_rooms, fl_sizes, fl_zones, fl_far, fl_alive, fl_apart, Pd.siM, Pd.seqOf, Pd.asgS, Pd.setS, Pd.dropS, h1, h2, h3, ownS, newLM, datas, tupM, ownM, chkM, frzS]
/-! ### the law's choices -/
def us (n : Nat) : List (List Int) := if n = 2 then [[], [0], [1], [0, 1]] else [[], [0], [1], [0, 1], [2], [0, 2], [1, 2], [0, 1, 2]]
theorem sort_us2 (P : List Int → Bool) : sortT ((us 2).filter P) = (subs 2).filter P := by
  cases h0 : P [] <;> cases h1 : P [0] <;> cases h2 : P [1] <;> cases h3 : P [0, 1] <;> simp [us, subs, h0, h1, h2, h3] <;> rfl
theorem sort_us3 (P : List Int → Bool) : sortT ((us 3).filter P) = (subs 3).filter P := by
  cases h0 : P [] <;> cases h1 : P [0] <;> cases h2 : P [1] <;> cases h3 : P [0, 1] <;> cases h4 : P [2] <;> cases h5 : P [0, 2] <;> cases h6 : P [1, 2] <;> cases h7 : P [0, 1, 2] <;> simp only [us, subs, List.filter, h0, h1, h2, h3, h4, h5, h6, h7, show ¬ (3 : Nat) = 2 by decide, if_false] <;> rfl
end K01
end
section
set_option Elab.async false
set_option linter.all false
set_option maxRecDepth 100000
set_option maxHeartbeats 1000000
namespace K01
open PySem Pd
theorem us_mem {n : Nat} (h : n = 2 ∨ n = 3) {ms : List Int} (hm : ms ∈ us n) : ms ∈ subs n := by
  rcases h with rfl | rfl
  · simp only [us, subs, if_true, List.mem_cons, List.not_mem_nil, or_false] at hm ⊢
    rcases hm with rfl | rfl | rfl | rfl <;> simp
  · simp only [us, subs, show ¬ (3 : Nat) = 2 by decide, if_false, List.mem_cons, List.not_mem_nil, or_false] at hm ⊢
    rcases hm with rfl | rfl | rfl | rfl | rfl | rfl | rfl | rfl <;> simp
theorem fstInts_map {α : Type} (f : α → Int) (g : α → PyData) (l : List α) : fstInts (l.map fun a => PyData.tuple [.int (f a), g a]) = some (l.map f) := by
  induction l with
  | nil => rfl
  | cons a l ih =>
    show (fstInts (l.map fun a => PyData.tuple [.int (f a), g a])).map (f a :: ·) = _
    rw [ih]; rfl
def spread (c : Cl) (ms : List Int) : Bool := decide (((dst (ms.map (zn c))).length : Int) = ms.length)
theorem v_law_spread (A : Ads) (c : Cl) (ms : List Int) (hz : c.zones.length = c.rooms.length) (h : ∀ m ∈ ms, inR c m) (hl : ms.length ≤ 60) : F__law_spread A [.obj A.C (fl c), .da (tupI ms)] = some (.ret (.da (.bool (spread c ms))) []) := by
  have w : c0__law_spread A [some (.obj A.C (fl c)), some (.da (tupI ms)), none] = some (.ok (.da (.list (ms.map fun m => PyData.tuple [.int (zn c m), .int 1]))) [some (.obj A.C (fl c)), some (.da (tupI ms)), none]) := by
    unfold c0__law_spread
    rw [lcM_tl PyData.int (l := ms) (fun m => some (PyData.tuple [.int (zn c m), .int 1])) (by rfl) (by unfold LIM; omega) (fun m hm => ?_), filterMap_some]
    have h1 := h m hm
    unfold stepV
    simp [Pd.runN, Pd.runF, Pd.seqS, Pd.ifS, Pd.retS, Pd.withE, Pd.andV, Pd.orV, Pd.boolM, Pd.notM, Pd.andM, Pd.orM, Pd.ifM, Pd.isiM, Pd.bindM, Pd.varM, Pd.liftO, Pd.isiD, Pd.tyOfD, Pd.asB, Pd.notV, Pd.chainM, Pd.op2M, Pd.leD, Pd.ltD, Pd.gtD, Pd.geD, Pd.intD, Pd.retM, Pd.outOf, Pd.ownAt, Pd.bltM, Pd.vals, Pd.lenD, Pd.consM, Pd.callM, Pd.ownSlots, Pd.svsOf, Pd.svOf, Pd.setOwn, Pd.nxS, Pd.setM, isOwn_zero, isOwn_succ, isOwn_nil, isOD_zero, isOD_succ, isOD_nil, ownB_free, mrg_free, Pd.wipeE, mergeE_nil, mergeE_cons, Pd.fldM, Pd.fldOf, fl_rooms, fl_sizes, fl_zones, fl_far, fl_alive, fl_apart, Pd.siM, Pd.seqOf, Pd.asgS, Pd.setS, Pd.dropS, ixD, atI_map, zone_at (c := c) (m := m) (by rw [hz]; exact h1), tupM, datas]
  have e := fstInts_map (zn c) (fun _ => PyData.int 1) ms
  unfold F__law_spread g__law_spread spread
  unfold tupI at *
  simp [Pd.runN, Pd.runF, Pd.seqS, Pd.ifS, Pd.retS, Pd.withE, Pd.andV, Pd.orV, Pd.boolM, Pd.notM, Pd.andM, Pd.orM, Pd.ifM, Pd.isiM, Pd.bindM, Pd.varM, Pd.liftO, Pd.isiD, Pd.tyOfD, Pd.asB, Pd.notV, Pd.chainM, Pd.op2M, Pd.leD, Pd.ltD, Pd.gtD, Pd.geD, Pd.intD, Pd.retM, Pd.outOf, Pd.ownAt, Pd.bltM, Pd.vals, Pd.lenD, Pd.consM, Pd.callM, Pd.ownSlots, Pd.svsOf, Pd.svOf, Pd.setOwn, Pd.nxS, Pd.setM, isOwn_zero, isOwn_succ, isOwn_nil, isOD_zero, isOD_succ, isOD_nil, ownB_free, mrg_free, Pd.wipeE, mergeE_nil, mergeE_cons, Pd.fldM, Pd.fldOf, fl_rooms, fl_sizes, fl_zones, fl_far, fl_alive, fl_apart, Pd.siM, Pd.seqOf, Pd.asgS, Pd.setS, Pd.dropS, w, dictLenM, e, eqD_int]
theorem intsOf_tups : ∀ {l : List (List Int)}, l ≠ [] → intsOf (l.map tupI) = none
  | [], h => absurd rfl h
  | _ :: _, _ => rfl
theorem tupsOf_map (l : List (List Int)) : tupsOf (l.map tupI) = some l := by
  induction l with
  | nil => rfl
  | cons a l ih =>
    show (match intsOf (a.map .int), tupsOf (l.map tupI) with
      | some ns, some l => some (ns :: l)
      | _, _ => none) = _
    rw [intsOf_map, ih]
theorem sortedD_tups (l : List (List Int)) (h : ∀ ns ∈ l, ns ≠ []) : sortedD [.da (.list (l.map tupI))] = some (.da (.list ((sortT l).map tupI))) := by
  cases l with
  | nil => rfl
  | cons a l =>
    have e1 := intsOf_tups (l := a :: l) (by simp)
    have e2 := tupsOf_map (a :: l)
    have e3 : (a :: l).all (fun ns => !ns.isEmpty) = true := by
      rw [List.all_eq_true]
      intro x hx
      have := h x hx
      cases x with
      | nil => exact absurd rfl this
      | cons _ _ => rfl
    unfold sortedD
    simp only [e1, e2]
    rw [if_pos (.inl e3)]
def grow (l : List (List Int)) (m : Int) : List (List Int) := l ++ l.map fun r => r ++ [m]
theorem grow_us (n : Nat) (h : n = 2 ∨ n = 3) : (ns n).foldl grow [[]] = us n := by
  rcases h with rfl | rfl
  · rfl
  · rfl
theorem rangeL_ns (n : Nat) : rangeL 0 n = (ns n).map .int := by
  unfold rangeL ns
  rw [List.map_map]
  apply List.map_congr_left
  intro i _
  simp
theorem grow_len (done : List Int) : ∀ l : List (List Int), (done.foldl grow l).length = l.length * 2 ^ done.length := by
  induction done with
  | nil => intro l; simp
  | cons m done ih =>
    intro l
    rw [List.foldl_cons, ih, List.length_cons, Nat.pow_succ]
    unfold grow
    rw [List.length_append, List.length_map, ← Nat.two_mul, Nat.mul_comm 2, Nat.mul_assoc, Nat.mul_comm 2]
theorem grow_mem : ∀ (done : List Int) (L0 : List (List Int)) (k : Nat), (∀ r ∈ L0, r.length ≤ k) → ∀ r ∈ done.foldl grow L0, r.length ≤ k + done.length
  | [], L0, k, h, r, hr => by simpa using h r hr
  | x :: done, L0, k, h, r, hr => by
    rw [List.foldl_cons] at hr
    have := grow_mem done (grow L0 x) (k + 1) (fun q hq => by
      unfold grow at hq
      rcases List.mem_append.mp hq with hq | hq
      · have := h q hq; omega
      · obtain ⟨q0, h0, rfl⟩ := List.mem_map.mp hq
        have := h q0 h0
        simp; omega) r hr
    simp; omega
theorem src_us (A : Ads) (c : Cl) (hc : OkC c) (x1 x2 x3 x4 : Option SV) : rg1M (consM (bltM lenD (consM (fldM A.C "_rooms" (varM 0)) (retM []))) (retM [])) [some (SV.obj A.C (fl c)), x1, x2, x3, x4] = some (.ok ((ns c.rooms.length).map .int) [some (SV.obj A.C (fl c)), x1, x2, x3, x4]) := by
  have := hc.rl
  have h1 : (-1000000 : Int) ≤ c.rooms.length := by omega
  have h2 : (c.rooms.length : Int) ≤ 1000000 := by omega
  simp [Pd.runN, Pd.runF, Pd.seqS, Pd.ifS, Pd.retS, Pd.withE, Pd.andV, Pd.orV, Pd.boolM, Pd.notM, Pd.andM, Pd.orM, Pd.ifM, Pd.isiM, Pd.bindM, Pd.varM, Pd.liftO, Pd.isiD, Pd.tyOfD, Pd.asB, Pd.notV, Pd.chainM, Pd.op2M, Pd.leD, Pd.ltD, Pd.gtD, Pd.geD, Pd.intD, Pd.retM, Pd.outOf, Pd.ownAt, Pd.bltM, Pd.vals, Pd.lenD, Pd.consM, Pd.callM, Pd.ownSlots, Pd.svsOf, Pd.svOf, Pd.setOwn, Pd.nxS, Pd.setM, isOwn_zero, isOwn_succ, isOwn_nil, isOD_zero, isOD_succ, isOD_nil, ownB_free, mrg_free, Pd.wipeE, mergeE_nil, mergeE_cons, Pd.fldM, Pd.fldOf, fl_rooms, fl_sizes, fl_zones, fl_far, fl_alive, fl_apart, Pd.siM, Pd.seqOf, Pd.asgS, Pd.setS, Pd.dropS, rg1M, rangeD1, h1, h2, rangeL_ns]
theorem loop_us (A : Ads) (c : Cl) (hc : OkC c) : ∃ z2 z3, free z2 = true ∧ free z3 = true ∧ c1__law_choices A [some (.obj A.C (fl c)), some (.da (.list [.tuple []])), none, none, none] = some (.nx [some (.obj A.C (fl c)), some (.da (.list ((us c.rooms.length).map tupI))), z2, z3, none]) := by
  obtain ⟨e, he, z2, h2, rfl⟩ := forS_inv PyData.int (fi := rg1M (consM (bltM lenD (consM (fldM A.C "_rooms" (varM 0)) (retM []))) (retM []))) (g := setM 2) (body := setS 1 (op2M addD (varM 1) (c0__law_choices A))) (l := ns c.rooms.length) (env := [some (SV.obj A.C (fl c)), some (.da (.list [.tuple []])), none, none, none])
    (fun done e => ∃ z2, free z2 = true ∧ e = [some (SV.obj A.C (fl c)), some (.da (.list ((done.foldl grow [[]]).map tupI))), z2, none, none]) (src_us A c hc _ _ _ _) ⟨none, rfl, rfl⟩ (fun done m rest env hd hp => by
      obtain ⟨z2, h2, rfl⟩ := hp
      generalize hL : done.foldl grow [[]] = L
      have hlen : L.length ≤ 8 := by
        rw [← hL, grow_len]
        have : done.length + 1 ≤ 3 := by
          have h := congrArg List.length hd
          rw [ns_len, List.length_append, List.length_cons] at h
          have := hc.rl
          omega
        have : done.length ≤ 2 := by omega
        have : 2 ^ done.length ≤ 2 ^ 3 := Nat.pow_le_pow_right (by decide) (by omega)
        simpa using this
      have w : c0__law_choices A [some (SV.obj A.C (fl c)), some (.da (.list (L.map tupI))), some (.da (.int m)), none, none] = some (.ok (.da (.list (L.map fun r => tupI (r ++ [m])))) [some (SV.obj A.C (fl c)), some (.da (.list (L.map tupI))), some (.da (.int m)), none, none]) := by
        unfold c0__law_choices
        rw [lcM_tl tupI (l := L) (fun r => some (tupI (r ++ [m]))) (by rfl) (by unfold LIM; omega) (fun r hr => ?_), filterMap_some]
        have hr2 : r.length + 1 ≤ LIM := by
          have h1 := grow_mem done [[]] 0 (by simp) r (by rw [hL]; exact hr)
          have h2 := congrArg List.length hd
          rw [ns_len, List.length_append, List.length_cons] at h2
          have := hc.rl
          unfold LIM
          omega
        unfold stepV tupI
        simp [Pd.runN, Pd.runF, Pd.seqS, Pd.ifS, Pd.retS, Pd.withE, Pd.andV, Pd.orV, Pd.boolM, Pd.notM, Pd.andM, Pd.orM, Pd.ifM, Pd.isiM, Pd.bindM, Pd.varM, Pd.liftO, Pd.isiD, Pd.tyOfD, Pd.asB, Pd.notV, Pd.chainM, Pd.op2M, Pd.leD, Pd.ltD, Pd.gtD, Pd.geD, Pd.intD, Pd.retM, Pd.outOf, Pd.ownAt, Pd.bltM, Pd.vals, Pd.lenD, Pd.consM, Pd.callM, Pd.ownSlots, Pd.svsOf, Pd.svOf, Pd.setOwn, Pd.nxS, Pd.setM, isOwn_zero, isOwn_succ, isOwn_nil, isOD_zero, isOD_succ, isOD_nil, ownB_free, mrg_free, Pd.wipeE, mergeE_nil, mergeE_cons, Pd.fldM, Pd.fldOf, fl_rooms, fl_sizes, fl_zones, fl_far, fl_alive, fl_apart, Pd.siM, Pd.seqOf, Pd.asgS, Pd.setS, Pd.dropS, tupM, datas, addD, hr2]
      have hs : L.length + L.length ≤ LIM := by unfold LIM; omega
      refine ⟨_, _, by simp [Pd.runN, Pd.runF, Pd.seqS, Pd.ifS, Pd.retS, Pd.withE, Pd.andV, Pd.orV, Pd.boolM, Pd.notM, Pd.andM, Pd.orM, Pd.ifM, Pd.isiM, Pd.bindM, Pd.varM, Pd.liftO, Pd.isiD, Pd.tyOfD, Pd.asB, Pd.notV, Pd.chainM, Pd.op2M, Pd.leD, Pd.ltD, Pd.gtD, Pd.geD, Pd.intD, Pd.retM, Pd.outOf, Pd.ownAt, Pd.bltM, Pd.vals, Pd.lenD, Pd.consM, Pd.callM, Pd.ownSlots, Pd.svsOf, Pd.svOf, Pd.setOwn, Pd.nxS, Pd.setM, isOwn_zero, isOwn_succ, isOwn_nil, isOD_zero, isOD_succ, isOD_nil, ownB_free, mrg_free, Pd.wipeE, mergeE_nil, mergeE_cons, Pd.fldM, Pd.fldOf, fl_rooms, fl_sizes, fl_zones, fl_far, fl_alive, fl_apart, Pd.siM, Pd.seqOf, Pd.asgS, Pd.setS, Pd.dropS, h2]; rfl, .inl (by simp [Pd.runN, Pd.runF, Pd.seqS, Pd.ifS, Pd.retS, Pd.withE, Pd.andV, Pd.orV, Pd.boolM, Pd.notM, Pd.andM, Pd.orM, Pd.ifM, Pd.isiM, Pd.bindM, Pd.varM, Pd.liftO, Pd.isiD, Pd.tyOfD, Pd.asB, Pd.notV, Pd.chainM, Pd.op2M, Pd.leD, Pd.ltD, Pd.gtD, Pd.geD, Pd.intD, Pd.retM, Pd.outOf, Pd.ownAt, Pd.bltM, Pd.vals, Pd.lenD, Pd.consM, Pd.callM, Pd.ownSlots, Pd.svsOf, Pd.svOf, Pd.setOwn, Pd.nxS, Pd.setM, isOwn_zero, isOwn_succ, isOwn_nil, isOD_zero, isOD_succ, isOD_nil, ownB_free, mrg_free, Pd.wipeE, mergeE_nil, mergeE_cons, Pd.fldM, Pd.fldOf, fl_rooms, fl_sizes, fl_zones, fl_far, fl_alive, fl_apart, Pd.siM, Pd.seqOf, Pd.asgS, Pd.setS, Pd.dropS, w, addD, hs]; rfl), some (.da (.int m)), rfl, ?_⟩
      rw [List.foldl_append, List.foldl_cons, List.foldl_nil, hL]
      unfold grow
      simp [List.map_map, Function.comp_def])
  refine ⟨z2, none, h2, rfl, ?_⟩
  unfold c1__law_choices
  rw [he, grow_us _ hc.n23]
theorem mayLie_eq (c : Cl) : mayLie c = fun ms => decide (c.alive ≤ ms.length) && (!c.apart || spread c ms) := by
  funext ms
  unfold mayLie spread
  congr 2
  simp [Int.natCast_inj]
theorem v_law_choices (A : Ads) (c : Cl) (hc : OkC c) : F__law_choices A [.obj A.C (fl c)] = some (.ret (.da (.list ((ch c).map tupI))) []) := by
  obtain ⟨z2, z3, h2, h3, hloop⟩ := loop_us A c hc
  have hmem : ∀ ms ∈ us c.rooms.length, Asc c.rooms.length 0 ms ∧ ms.length ≤ 60 := fun ms hm => subs_asc hc.n23 (us_mem hc.n23 hm)
  have hlim : ∀ P : List Int → Bool, ((us c.rooms.length).filter P).length ≤ LIM := fun P => by
    refine Nat.le_trans (List.length_filter_le _ _) ?_
    rcases hc.n23 with e | e <;> rw [e] <;> simp [us, LIM]
  have w2 : c2__law_choices A [some (.obj A.C (fl c)), some (.da (.list ((us c.rooms.length).map tupI))), z2, z3, none] = some (.ok (.da (.list (((us c.rooms.length).filter fun ms => decide (c.alive ≤ ms.length)).map tupI))) [some (.obj A.C (fl c)), some (.da (.list ((us c.rooms.length).map tupI))), z2, z3, none]) := by
    unfold c2__law_choices
    rw [lcM_tl tupI (l := us c.rooms.length) (fun ms => if (decide (c.alive ≤ ms.length)) = true then some (tupI ms) else none) (by rfl) (by rcases hc.n23 with e | e <;> rw [e] <;> simp [us, LIM]) (fun ms hm => ?_), filterMap_ite]
    unfold stepV
    unfold tupI
    by_cases ha : c.alive ≤ ms.length <;> simp [Pd.runN, Pd.runF, Pd.seqS, Pd.ifS, Pd.retS, Pd.withE, Pd.andV, Pd.orV, Pd.boolM, Pd.notM, Pd.andM, Pd.orM, Pd.ifM, Pd.isiM, Pd.bindM, Pd.varM, Pd.liftO, Pd.isiD, Pd.tyOfD, Pd.asB, Pd.notV, Pd.chainM, Pd.op2M, Pd.leD, Pd.ltD, Pd.gtD, Pd.geD, Pd.intD, Pd.retM, Pd.outOf, Pd.ownAt, Pd.bltM, Pd.vals, Pd.lenD, Pd.consM, Pd.callM, Pd.ownSlots, Pd.svsOf, Pd.svOf, Pd.setOwn, Pd.nxS, Pd.setM, isOwn_zero, isOwn_succ, isOwn_nil, isOD_zero, isOD_succ, isOD_nil, ownB_free, mrg_free, Pd.wipeE, mergeE_nil, mergeE_cons, Pd.fldM, Pd.fldOf, fl_rooms, fl_sizes, fl_zones, fl_far, fl_alive, fl_apart, Pd.siM, Pd.seqOf, Pd.asgS, Pd.setS, Pd.dropS, ha, h2, h3]
  have w3 : c3__law_choices A [some (.obj A.C (fl c)), some (.da (.list ((us c.rooms.length).map tupI))), z2, z3, some (.da (.list (((us c.rooms.length).filter fun ms => decide (c.alive ≤ ms.length)).map tupI)))] =
      some (.ok (.da (.list ((((us c.rooms.length).filter fun ms => decide (c.alive ≤ ms.length)).filter (spread c)).map tupI))) [some (.obj A.C (fl c)), some (.da (.list ((us c.rooms.length).map tupI))), z2, z3, some (.da (.list (((us c.rooms.length).filter fun ms => decide (c.alive ≤ ms.length)).map tupI)))]) := by
    unfold c3__law_choices
    rw [lcM_tl tupI (l := (us c.rooms.length).filter fun ms => decide (c.alive ≤ ms.length)) (fun ms => if spread c ms = true then some (tupI ms) else none) (by rfl) (hlim _) (fun ms hm => ?_), filterMap_ite]
    have ha := hmem ms (List.mem_filter.mp hm).1
    have := v_law_spread A c ms hc.zl (asc_nd ha.1).1 ha.2
    unfold stepV
    cases hs : spread c ms <;> simp [Pd.runN, Pd.runF, Pd.seqS, Pd.ifS, Pd.retS, Pd.withE, Pd.andV, Pd.orV, Pd.boolM, Pd.notM, Pd.andM, Pd.orM, Pd.ifM, Pd.isiM, Pd.bindM, Pd.varM, Pd.liftO, Pd.isiD, Pd.tyOfD, Pd.asB, Pd.notV, Pd.chainM, Pd.op2M, Pd.leD, Pd.ltD, Pd.gtD, Pd.geD, Pd.intD, Pd.retM, Pd.outOf, Pd.ownAt, Pd.bltM, Pd.vals, Pd.lenD, Pd.consM, Pd.callM, Pd.ownSlots, Pd.svsOf, Pd.svOf, Pd.setOwn, Pd.nxS, Pd.setM, isOwn_zero, isOwn_succ, isOwn_nil, isOD_zero, isOD_succ, isOD_nil, ownB_free, mrg_free, Pd.wipeE, mergeE_nil, mergeE_cons, Pd.fldM, Pd.fldOf, fl_rooms, fl_sizes, fl_zones, fl_far, fl_alive, fl_apart, Pd.siM, Pd.seqOf, Pd.asgS, Pd.setS, Pd.dropS, this, hs, h2, h3]
  have hs : ∀ P : List Int → Bool, sortT ((us c.rooms.length).filter P) = (subs c.rooms.length).filter P := fun P => by
    rcases hc.n23 with e | e
    · rw [e]; exact sort_us2 P
    · rw [e]; exact sort_us3 P
  have hne : ∀ (P : List Int → Bool), ∀ ms ∈ (us c.rooms.length).filter (fun ms => decide (c.alive ≤ ms.length) && P ms), ms ≠ [] := fun P ms hm e => by
    have := (List.mem_filter.mp hm).2
    rw [e] at this
    have := hc.al.1
    simp at *; omega
  have e1 := sortedD_tups _ (hne fun ms => spread c ms)
  have e0 := sortedD_tups _ (hne fun _ => true)
  rw [hs] at e0 e1
  unfold F__law_choices g__law_choices ch
  rw [mayLie_eq]
  simp only [Bool.and_true] at e0
  cases hap : c.apart with
  | false => simp [Pd.runN, Pd.runF, Pd.seqS, Pd.ifS, Pd.retS, Pd.withE, Pd.andV, Pd.orV, Pd.boolM, Pd.notM, Pd.andM, Pd.orM, Pd.ifM, Pd.isiM, Pd.bindM, Pd.varM, Pd.liftO, Pd.isiD, Pd.tyOfD, Pd.asB, Pd.notV, Pd.chainM, Pd.op2M, Pd.leD, Pd.ltD, Pd.gtD, Pd.geD, Pd.intD, Pd.retM, Pd.outOf, Pd.ownAt, Pd.bltM, Pd.vals, Pd.lenD, Pd.consM, Pd.callM, Pd.ownSlots, Pd.svsOf, Pd.svOf, Pd.setOwn, Pd.nxS, Pd.setM, isOwn_zero, isOwn_succ, isOwn_nil, isOD_zero, isOD_succ, isOD_nil, ownB_free, mrg_free, Pd.wipeE, mergeE_nil, mergeE_cons, Pd.fldM, Pd.fldOf, fl_rooms, fl_sizes, fl_zones, fl_far, fl_alive, fl_apart, Pd.siM, Pd.seqOf, Pd.asgS, Pd.setS, Pd.dropS, lstM, tupM, datas, hloop, w2, hap, e0, h2, h3]
  | true =>
    have ff : ((us c.rooms.length).filter fun ms => decide (c.alive ≤ ms.length)).filter (spread c) = (us c.rooms.length).filter fun ms => decide (c.alive ≤ ms.length) && spread c ms := by
      rw [List.filter_filter]
      congr 1
      funext ms
      rw [Bool.and_comm]
    rw [ff] at w3
    simp [Pd.runN, Pd.runF, Pd.seqS, Pd.ifS, Pd.retS, Pd.withE, Pd.andV, Pd.orV, Pd.boolM, Pd.notM, Pd.andM, Pd.orM, Pd.ifM, Pd.isiM, Pd.bindM, Pd.varM, Pd.liftO, Pd.isiD, Pd.tyOfD, Pd.asB, Pd.notV, Pd.chainM, Pd.op2M, Pd.leD, Pd.ltD, Pd.gtD, Pd.geD, Pd.intD, Pd.retM, Pd.outOf, Pd.ownAt, Pd.bltM, Pd.vals, Pd.lenD, Pd.consM, Pd.callM, Pd.ownSlots, Pd.svsOf, Pd.svOf, Pd.setOwn, Pd.nxS, Pd.setM, isOwn_zero, isOwn_succ, isOwn_nil, isOD_zero, isOD_succ, isOD_nil, ownB_free, mrg_free, Pd.wipeE, mergeE_nil, mergeE_cons, Pd.fldM, Pd.fldOf, fl_rooms, fl_sizes, fl_zones, fl_far, fl_alive, fl_apart, Pd.siM, Pd.seqOf, Pd.asgS, Pd.setS, Pd.dropS, lstM, tupM, datas, hloop, w2, w3, hap, e1, h2, h3]
end K01
end
section
set_option Elab.async false
set_option linter.all false
set_option maxRecDepth 100000
set_option maxHeartbeats 1000000
namespace K01
open PySem Pd
/-! ### the law's loads, fits, all placings by breadth -/
theorem sum_filter {α : Type} (p : α → Bool) (f : α → Int) (l : List α) : ((l.filter p).map f).sum = (l.map fun a => if p a = true then f a else 0).sum := by
  induction l with
  | nil => rfl
  | cons a l ih => cases h : p a <;> simp [h, ih]
theorem v_law_held (A : Ads) (c : Cl) (p : List (List Int)) (hn : c.rooms.length ≤ 1000) (hs : c.sizes.length ≤ 1000) : F__law_held A [.obj A.C (fl c), .da (eP p)] = some (.ret (.da (.list ((loads c p).map .int))) []) := by
  have loop : ∃ z3 z4, free z3 = true ∧ free z4 = true ∧ c1__law_held A [some (.obj A.C (fl c)), some (.da (eP p)), some (.own []), none, none, none, none] =
      some (.nx [some (.obj A.C (fl c)), some (.da (eP p)), some (.own ((loads c p).map .int)), z3, z4, none, none]) := by
    obtain ⟨e, h1, z3, z4, h3, h4, rfl⟩ := forS_inv PyData.int (fi := rg1M (consM (bltM lenD (consM (fldM A.C "_rooms" (varM 0)) (retM []))) (retM []))) (g := setM 3) (body := seqS (setS 4 (c0__law_held A)) (appS 2 (bltM sumD (consM (varM 4) (retM [])))))
      (l := ns c.rooms.length) (env := [some (.obj A.C (fl c)), some (.da (eP p)), some (.own []), none, none, none, none])
      (fun done e => ∃ z3 z4, free z3 = true ∧ free z4 = true ∧ e = [some (.obj A.C (fl c)), some (.da (eP p)), some (.own ((done.map (hl c p)).map .int)), z3, z4, none, none])
      (by
        have h1 : (-1000000 : Int) ≤ c.rooms.length := by omega
        have h2 : (c.rooms.length : Int) ≤ 1000000 := by omega
        simp [Pd.runN, Pd.runF, Pd.seqS, Pd.ifS, Pd.retS, Pd.withE, Pd.andV, Pd.orV, Pd.boolM, Pd.notM, Pd.andM, Pd.orM, Pd.ifM, Pd.isiM, Pd.bindM, Pd.varM, Pd.liftO, Pd.isiD, Pd.tyOfD, Pd.asB, Pd.notV, Pd.chainM, Pd.op2M, Pd.leD, Pd.ltD, Pd.gtD, Pd.geD, Pd.intD, Pd.retM, Pd.outOf, Pd.ownAt, Pd.bltM, Pd.vals, Pd.lenD, Pd.consM, Pd.callM, Pd.ownSlots, Pd.svsOf, Pd.svOf, Pd.setOwn, Pd.nxS, Pd.setM, isOwn_zero, isOwn_succ, isOwn_nil, isOD_zero, isOD_succ, isOD_nil, ownB_free, mrg_free, Pd.wipeE, mergeE_nil, mergeE_cons, Pd.fldM, Pd.fldOf, fl_rooms, fl_sizes, fl_zones, fl_far, fl_alive, fl_apart, Pd.siM, Pd.seqOf, Pd.asgS, Pd.setS, Pd.dropS, rg1M, rangeD1, h1, h2, rangeL_ns]) ⟨none, none, rfl, rfl, rfl⟩ (fun done m rest env hd hp => by
        obtain ⟨z3, z4, n3, n4, rfl⟩ := hp
        have hdl : (done.map (hl c p)).length < LIM := by
          have h := congrArg List.length hd
          rw [ns_len, List.length_append, List.length_cons] at h
          rw [List.length_map]; unfold LIM; omega
        rw [List.length_map] at hdl
        have w : ∀ ow : List PyData, c0__law_held A [some (.obj A.C (fl c)), some (.da (eP p)), some (.own ow), some (.da (.int m)), z4, none, none] =
            some (.ok (.da (.list (((c.sizes.zip p).filter fun q => decide (m ∈ q.2)).map fun q => .int q.1))) [some (.obj A.C (fl c)), some (.da (eP p)), some (.own ow), some (.da (.int m)), z4, none, none]) := fun ow => by
          unfold c0__law_held
          rw [lcM_tl (fun q : Int × List Int => PyData.tuple [.int q.1, tupI q.2]) (l := c.sizes.zip p) (fun q => if (decide (m ∈ q.2)) = true then some (.int q.1) else none) ?_ (by rw [List.length_zip]; unfold LIM; omega) (fun q hq => ?_), filterMap_ite]
          · unfold eP; simp [Pd.runN, Pd.runF, Pd.seqS, Pd.ifS, Pd.retS, Pd.withE, Pd.andV, Pd.orV, Pd.boolM, Pd.notM, Pd.andM, Pd.orM, Pd.ifM, Pd.isiM, Pd.bindM, Pd.varM, Pd.liftO, Pd.isiD, Pd.tyOfD, Pd.asB, Pd.notV, Pd.chainM, Pd.op2M, Pd.leD, Pd.ltD, Pd.gtD, Pd.geD, Pd.intD, Pd.retM, Pd.outOf, Pd.ownAt, Pd.bltM, Pd.vals, Pd.lenD, Pd.consM, Pd.callM, Pd.ownSlots, Pd.svsOf, Pd.svOf, Pd.setOwn, Pd.nxS, Pd.setM, isOwn_zero, isOwn_succ, isOwn_nil, isOD_zero, isOD_succ, isOD_nil, ownB_free, mrg_free, Pd.wipeE, mergeE_nil, mergeE_cons, Pd.fldM, Pd.fldOf, fl_rooms, fl_sizes, fl_zones, fl_far, fl_alive, fl_apart, Pd.siM, Pd.seqOf, Pd.asgS, Pd.setS, Pd.dropS, ztM, zipL_map]
          · have hm : (q.2.contains m) = decide (m ∈ q.2) := by simp
            unfold stepV tupI
            by_cases h : m ∈ q.2 <;> simp [Pd.runN, Pd.runF, Pd.seqS, Pd.ifS, Pd.retS, Pd.withE, Pd.andV, Pd.orV, Pd.boolM, Pd.notM, Pd.andM, Pd.orM, Pd.ifM, Pd.isiM, Pd.bindM, Pd.varM, Pd.liftO, Pd.isiD, Pd.tyOfD, Pd.asB, Pd.notV, Pd.chainM, Pd.op2M, Pd.leD, Pd.ltD, Pd.gtD, Pd.geD, Pd.intD, Pd.retM, Pd.outOf, Pd.ownAt, Pd.bltM, Pd.vals, Pd.lenD, Pd.consM, Pd.callM, Pd.ownSlots, Pd.svsOf, Pd.svOf, Pd.setOwn, Pd.nxS, Pd.setM, isOwn_zero, isOwn_succ, isOwn_nil, isOD_zero, isOD_succ, isOD_nil, ownB_free, mrg_free, Pd.wipeE, mergeE_nil, mergeE_cons, Pd.fldM, Pd.fldOf, fl_rooms, fl_sizes, fl_zones, fl_far, fl_alive, fl_apart, Pd.siM, Pd.seqOf, Pd.asgS, Pd.setS, Pd.dropS, tupG, consG, nilG, inD, intsOf_map, hm, h, n4]
        have es : ∀ l : List (Int × List Int), intsOf (l.map fun q => PyData.int q.1) = some (l.map (·.1)) := fun l => by
          have := intsOf_map (l.map (·.1)); rw [List.map_map] at this; exact this
        refine ⟨_, _, by simp [Pd.runN, Pd.runF, Pd.seqS, Pd.ifS, Pd.retS, Pd.withE, Pd.andV, Pd.orV, Pd.boolM, Pd.notM, Pd.andM, Pd.orM, Pd.ifM, Pd.isiM, Pd.bindM, Pd.varM, Pd.liftO, Pd.isiD, Pd.tyOfD, Pd.asB, Pd.notV, Pd.chainM, Pd.op2M, Pd.leD, Pd.ltD, Pd.gtD, Pd.geD, Pd.intD, Pd.retM, Pd.outOf, Pd.ownAt, Pd.bltM, Pd.vals, Pd.lenD, Pd.consM, Pd.callM, Pd.ownSlots, Pd.svsOf, Pd.svOf, Pd.setOwn, Pd.nxS, Pd.setM, isOwn_zero, isOwn_succ, isOwn_nil, isOD_zero, isOD_succ, isOD_nil, ownB_free, mrg_free, Pd.wipeE, mergeE_nil, mergeE_cons, Pd.fldM, Pd.fldOf, fl_rooms, fl_sizes, fl_zones, fl_far, fl_alive, fl_apart, Pd.siM, Pd.seqOf, Pd.asgS, Pd.setS, Pd.dropS, n3]; rfl, .inl (by simp [Pd.runN, Pd.runF, Pd.seqS, Pd.ifS, Pd.retS, Pd.withE, Pd.andV, Pd.orV, Pd.boolM, Pd.notM, Pd.andM, Pd.orM, Pd.ifM, Pd.isiM, Pd.bindM, Pd.varM, Pd.liftO, Pd.isiD, Pd.tyOfD, Pd.asB, Pd.notV, Pd.chainM, Pd.op2M, Pd.leD, Pd.ltD, Pd.gtD, Pd.geD, Pd.intD, Pd.retM, Pd.outOf, Pd.ownAt, Pd.bltM, Pd.vals, Pd.lenD, Pd.consM, Pd.callM, Pd.ownSlots, Pd.svsOf, Pd.svOf, Pd.setOwn, Pd.nxS, Pd.setM, isOwn_zero, isOwn_succ, isOwn_nil, isOD_zero, isOD_succ, isOD_nil, ownB_free, mrg_free, Pd.wipeE, mergeE_nil, mergeE_cons, Pd.fldM, Pd.fldOf, fl_rooms, fl_sizes, fl_zones, fl_far, fl_alive, fl_apart, Pd.siM, Pd.seqOf, Pd.asgS, Pd.setS, Pd.dropS, w, n4, appS, lintD, es, hdl]; rfl), some (.da (.int m)), some (.da (.list (((c.sizes.zip p).filter fun q => decide (m ∈ q.2)).map fun q => .int q.1))), rfl, rfl, ?_⟩
        have e2 := sum_filter (fun q : Int × List Int => decide (m ∈ q.2)) (·.1) (c.sizes.zip p)
        simp only [decide_eq_true_eq] at e2
        simp [hl, e2])
    exact ⟨z3, z4, h3, h4, h1⟩
  obtain ⟨z3, z4, h3, h4, hloop⟩ := loop
  unfold F__law_held g__law_held
  simp [Pd.runN, Pd.runF, Pd.seqS, Pd.ifS, Pd.retS, Pd.withE, Pd.andV, Pd.orV, Pd.boolM, Pd.notM, Pd.andM, Pd.orM, Pd.ifM, Pd.isiM, Pd.bindM, Pd.varM, Pd.liftO, Pd.isiD, Pd.tyOfD, Pd.asB, Pd.notV, Pd.chainM, Pd.op2M, Pd.leD, Pd.ltD, Pd.gtD, Pd.geD, Pd.intD, Pd.retM, Pd.outOf, Pd.ownAt, Pd.bltM, Pd.vals, Pd.lenD, Pd.consM, Pd.callM, Pd.ownSlots, Pd.svsOf, Pd.svOf, Pd.setOwn, Pd.nxS, Pd.setM, isOwn_zero, isOwn_succ, isOwn_nil, isOD_zero, isOD_succ, isOD_nil, ownB_free, mrg_free, Pd.wipeE, mergeE_nil, mergeE_cons, Pd.fldM, Pd.fldOf, fl_rooms, fl_sizes, fl_zones, fl_far, fl_alive, fl_apart, Pd.siM, Pd.seqOf, Pd.asgS, Pd.setS, Pd.dropS, ownS, newLM, datas, hloop, frzS]
/-- a loop that may come back early -/
theorem forGo_all {α : Type} (enc : α → PyData) {g : SV → Mo Unit} {body : MoS} (ok : α → Bool) (d : SV) (P : PEnv → Prop) {l : List α} (hs : ∀ x ∈ l, ∀ env, P env → ∃ e1, g (.da (enc x)) env = some (.ok () e1) ∧ (if ok x = true then ∃ e2, body e1 = some (.nx e2) ∧ P e2 else ∃ e2, body e1 = some (.ret d e2))) :
    ∀ env, P env → if l.all ok = true then ∃ e, forGo g body (l.map enc) env = some (.nx e) ∧ P e else ∃ e, forGo g body (l.map enc) env = some (.ret d e) := by
  induction l with
  | nil => exact fun env h => ⟨env, rfl, h⟩
  | cons x l ih =>
    intro env h
    obtain ⟨e1, h1, h2⟩ := hs x (.head _) env h
    rw [List.map_cons, List.all_cons]
    unfold forGo
    rw [h1]
    dsimp only
    cases hx : ok x with
    | true =>
      rw [hx] at h2
      obtain ⟨e2, h3, h4⟩ := h2
      have := ih (fun y hy => hs y (.tail _ hy)) e2 h4
      rw [h3]
      exact this
    | false =>
      rw [hx] at h2
      obtain ⟨e2, h3⟩ := h2
      rw [h3]
      exact ⟨e2, rfl⟩
theorem v_law_fits (A : Ads) (c : Cl) (p : List (List Int)) (hn : c.rooms.length ≤ 1000) (hs : c.sizes.length ≤ 1000) : F__law_fits A [.obj A.C (fl c), .da (eP p)] = some (.ret (.da (.bool (fits c p))) []) := by
  have hfi : zmM (consM (Pd.bindM (consM (varM 0) (consM (varM 1) (retM []))) (callM (F__law_held A))) (consM (fldM A.C "_rooms" (varM 0)) (retM []))) [some (.obj A.C (fl c)), some (.da (eP p)), none, none] = some (.ok (((loads c p).zip c.rooms).map fun q : Int × Int => PyData.tuple [.int q.1, .int q.2]) [some (.obj A.C (fl c)), some (.da (eP p)), none, none]) := by
    have z := zipL_ints (loads c p) c.rooms
    simp [Pd.runN, Pd.runF, Pd.seqS, Pd.ifS, Pd.retS, Pd.withE, Pd.andV, Pd.orV, Pd.boolM, Pd.notM, Pd.andM, Pd.orM, Pd.ifM, Pd.isiM, Pd.bindM, Pd.varM, Pd.liftO, Pd.isiD, Pd.tyOfD, Pd.asB, Pd.notV, Pd.chainM, Pd.op2M, Pd.leD, Pd.ltD, Pd.gtD, Pd.geD, Pd.intD, Pd.retM, Pd.outOf, Pd.ownAt, Pd.bltM, Pd.vals, Pd.lenD, Pd.consM, Pd.callM, Pd.ownSlots, Pd.svsOf, Pd.svOf, Pd.setOwn, Pd.nxS, Pd.setM, isOwn_zero, isOwn_succ, isOwn_nil, isOD_zero, isOD_succ, isOD_nil, ownB_free, mrg_free, Pd.wipeE, mergeE_nil, mergeE_cons, Pd.fldM, Pd.fldOf, fl_rooms, fl_sizes, fl_zones, fl_far, fl_alive, fl_apart, Pd.siM, Pd.seqOf, Pd.asgS, Pd.setS, Pd.dropS, zmM, v_law_held A c p hn hs, z]
  have key := forGo_all (fun q : Int × Int => PyData.tuple [.int q.1, .int q.2]) (g := tupG 2 (consG (setM 2) (consG (setM 3) nilG))) (body := ifS (boolM (op2M gtD (varM 2) (varM 3))) (retS (retM (.da (.bool false)))) nxS)
    (fun q => decide (q.1 ≤ q.2)) (.da (.bool false)) (fun e => ∃ z2 z3, free z2 = true ∧ free z3 = true ∧ e = [some (.obj A.C (fl c)), some (.da (eP p)), z2, z3]) (l := (loads c p).zip c.rooms) (fun q hq env hp => by
      obtain ⟨z2, z3, n2, n3, rfl⟩ := hp
      refine ⟨_, by simp [Pd.runN, Pd.runF, Pd.seqS, Pd.ifS, Pd.retS, Pd.withE, Pd.andV, Pd.orV, Pd.boolM, Pd.notM, Pd.andM, Pd.orM, Pd.ifM, Pd.isiM, Pd.bindM, Pd.varM, Pd.liftO, Pd.isiD, Pd.tyOfD, Pd.asB, Pd.notV, Pd.chainM, Pd.op2M, Pd.leD, Pd.ltD, Pd.gtD, Pd.geD, Pd.intD, Pd.retM, Pd.outOf, Pd.ownAt, Pd.bltM, Pd.vals, Pd.lenD, Pd.consM, Pd.callM, Pd.ownSlots, Pd.svsOf, Pd.svOf, Pd.setOwn, Pd.nxS, Pd.setM, isOwn_zero, isOwn_succ, isOwn_nil, isOD_zero, isOD_succ, isOD_nil, ownB_free, mrg_free, Pd.wipeE, mergeE_nil, mergeE_cons, Pd.fldM, Pd.fldOf, fl_rooms, fl_sizes, fl_zones, fl_far, fl_alive, fl_apart, Pd.siM, Pd.seqOf, Pd.asgS, Pd.setS, Pd.dropS, tupG, consG, nilG, n2, n3]; rfl, ?_⟩
      by_cases h : q.1 ≤ q.2
      · have h' : ¬ (q.2 < q.1) := by omega
        rw [if_pos (by simpa using h)]
        exact ⟨[some (.obj A.C (fl c)), some (.da (eP p)), some (.da (.int q.1)), some (.da (.int q.2))], by simp [Pd.runN, Pd.runF, Pd.seqS, Pd.ifS, Pd.retS, Pd.withE, Pd.andV, Pd.orV, Pd.boolM, Pd.notM, Pd.andM, Pd.orM, Pd.ifM, Pd.isiM, Pd.bindM, Pd.varM, Pd.liftO, Pd.isiD, Pd.tyOfD, Pd.asB, Pd.notV, Pd.chainM, Pd.op2M, Pd.leD, Pd.ltD, Pd.gtD, Pd.geD, Pd.intD, Pd.retM, Pd.outOf, Pd.ownAt, Pd.bltM, Pd.vals, Pd.lenD, Pd.consM, Pd.callM, Pd.ownSlots, Pd.svsOf, Pd.svOf, Pd.setOwn, Pd.nxS, Pd.setM, isOwn_zero, isOwn_succ, isOwn_nil, isOD_zero, isOD_succ, isOD_nil, ownB_free, mrg_free, Pd.wipeE, mergeE_nil, mergeE_cons, Pd.fldM, Pd.fldOf, fl_rooms, fl_sizes, fl_zones, fl_far, fl_alive, fl_apart, Pd.siM, Pd.seqOf, Pd.asgS, Pd.setS, Pd.dropS, h'], some (.da (.int q.1)), some (.da (.int q.2)), rfl, rfl, rfl⟩
      · have h' : q.2 < q.1 := by omega
        rw [if_neg (by simpa using h)]
        exact ⟨_, by simp [Pd.runN, Pd.runF, Pd.seqS, Pd.ifS, Pd.retS, Pd.withE, Pd.andV, Pd.orV, Pd.boolM, Pd.notM, Pd.andM, Pd.orM, Pd.ifM, Pd.isiM, Pd.bindM, Pd.varM, Pd.liftO, Pd.isiD, Pd.tyOfD, Pd.asB, Pd.notV, Pd.chainM, Pd.op2M, Pd.leD, Pd.ltD, Pd.gtD, Pd.geD, Pd.intD, Pd.retM, Pd.outOf, Pd.ownAt, Pd.bltM, Pd.vals, Pd.lenD, Pd.consM, Pd.callM, Pd.ownSlots, Pd.svsOf, Pd.svOf, Pd.setOwn, Pd.nxS, Pd.setM, isOwn_zero, isOwn_succ, isOwn_nil, isOD_zero, isOD_succ, isOD_nil, ownB_free, mrg_free, Pd.wipeE, mergeE_nil, mergeE_cons, Pd.fldM, Pd.fldOf, fl_rooms, fl_sizes, fl_zones, fl_far, fl_alive, fl_apart, Pd.siM, Pd.seqOf, Pd.asgS, Pd.setS, Pd.dropS, h']; rfl⟩) [some (.obj A.C (fl c)), some (.da (eP p)), none, none] ⟨none, none, rfl, rfl, rfl⟩
  have hc : c0__law_fits A [some (.obj A.C (fl c)), some (.da (eP p)), none, none] = forGo (tupG 2 (consG (setM 2) (consG (setM 3) nilG))) (ifS (boolM (op2M gtD (varM 2) (varM 3))) (retS (retM (.da (.bool false)))) nxS) (((loads c p).zip c.rooms).map fun q : Int × Int => PyData.tuple [.int q.1, .int q.2]) [some (.obj A.C (fl c)), some (.da (eP p)), none, none] := by
    unfold c0__law_fits forS withE
    rw [hfi]
  unfold F__law_fits g__law_fits fits
  split at key
  · rename_i h
    obtain ⟨e, h1, _⟩ := key
    rw [← hc] at h1
    rw [h]
    simp [Pd.runN, Pd.runF, Pd.seqS, Pd.ifS, Pd.retS, Pd.withE, Pd.andV, Pd.orV, Pd.boolM, Pd.notM, Pd.andM, Pd.orM, Pd.ifM, Pd.isiM, Pd.bindM, Pd.varM, Pd.liftO, Pd.isiD, Pd.tyOfD, Pd.asB, Pd.notV, Pd.chainM, Pd.op2M, Pd.leD, Pd.ltD, Pd.gtD, Pd.geD, Pd.intD, Pd.retM, Pd.outOf, Pd.ownAt, Pd.bltM, Pd.vals, Pd.lenD, Pd.consM, Pd.callM, Pd.ownSlots, Pd.svsOf, Pd.svOf, Pd.setOwn, Pd.nxS, Pd.setM, isOwn_zero, isOwn_succ, isOwn_nil, isOD_zero, isOD_succ, isOD_nil, ownB_free, mrg_free, Pd.wipeE, mergeE_nil, mergeE_cons, Pd.fldM, Pd.fldOf, fl_rooms, fl_sizes, fl_zones, fl_far, fl_alive, fl_apart, Pd.siM, Pd.seqOf, Pd.asgS, Pd.setS, Pd.dropS, h1]
  · rename_i h
    obtain ⟨e, h1⟩ := key
    rw [← hc] at h1
    rw [Bool.not_eq_true] at h
    rw [h]
    simp [Pd.runN, Pd.runF, Pd.seqS, Pd.ifS, Pd.retS, Pd.withE, Pd.andV, Pd.orV, Pd.boolM, Pd.notM, Pd.andM, Pd.orM, Pd.ifM, Pd.isiM, Pd.bindM, Pd.varM, Pd.liftO, Pd.isiD, Pd.tyOfD, Pd.asB, Pd.notV, Pd.chainM, Pd.op2M, Pd.leD, Pd.ltD, Pd.gtD, Pd.geD, Pd.intD, Pd.retM, Pd.outOf, Pd.ownAt, Pd.bltM, Pd.vals, Pd.lenD, Pd.consM, Pd.callM, Pd.ownSlots, Pd.svsOf, Pd.svOf, Pd.setOwn, Pd.nxS, Pd.setM, isOwn_zero, isOwn_succ, isOwn_nil, isOD_zero, isOD_succ, isOD_nil, ownB_free, mrg_free, Pd.wipeE, mergeE_nil, mergeE_cons, Pd.fldM, Pd.fldOf, fl_rooms, fl_sizes, fl_zones, fl_far, fl_alive, fl_apart, Pd.siM, Pd.seqOf, Pd.asgS, Pd.setS, Pd.dropS, h1]
def lvl (c : Cl) (rows : List (List (List Int))) : List (List (List Int)) := rows.flatMap fun row => ((ch c).map fun ms => row ++ [ms]).filter (fits c)
theorem lvl_dfs (c : Cl) (r : Nat) : ∀ rows : List (List (List Int)), (lvl c rows).flatMap (dfs c r) = rows.flatMap (dfs c (r + 1)) := by
  intro rows
  unfold lvl
  rw [List.flatMap_assoc]
  congr 1
  funext row
  show _ = (ch c).flatMap fun ms => if fits c (row ++ [ms]) = true then dfs c r (row ++ [ms]) else []
  induction ch c with
  | nil => rfl
  | cons ms l ih =>
    rw [List.flatMap_cons, ← ih, List.map_cons]
    cases h : fits c (row ++ [ms]) <;> simp [List.filter_cons, h]
def bfs (c : Cl) : Nat → List (List (List Int))
  | 0 => [[]]
  | k + 1 => lvl c (bfs c k)
theorem bfs_dfs (c : Cl) (r : Nat) : ∀ k, (bfs c k).flatMap (dfs c r) = (bfs c 0).flatMap (dfs c (k + r))
  | 0 => by simp
  | k + 1 => by
    show (lvl c (bfs c k)).flatMap (dfs c r) = _
    rw [lvl_dfs, bfs_dfs c (r + 1) k]
    congr 2
    omega
theorem bfs_allP (c : Cl) : bfs c c.sizes.length = allP c := by
  have := bfs_dfs c 0 c.sizes.length
  unfold allP
  simp only [bfs, List.flatMap_cons, List.flatMap_nil, List.append_nil, Nat.add_zero] at this
  rw [← this]
  show _ = (bfs c c.sizes.length).flatMap fun p => [p]
  simp
theorem lvl_len {c : Cl} (hc : OkC c) (rows : List (List (List Int))) : (lvl c rows).length ≤ rows.length * 8 := by
  unfold lvl
  induction rows with
  | nil => simp
  | cons row rows ih =>
    rw [List.flatMap_cons, List.length_append, List.length_cons]
    have h1 : (((ch c).map fun ms => row ++ [ms]).filter (fits c)).length ≤ 8 := by
      refine Nat.le_trans (List.length_filter_le _ _) ?_
      rw [List.length_map]
      exact ch_len hc
    omega
theorem bfs_len {c : Cl} (hc : OkC c) : ∀ k, (bfs c k).length ≤ 8 ^ k
  | 0 => by simp [bfs]
  | k + 1 => by
    have := lvl_len hc (bfs c k)
    have := bfs_len hc k
    show (lvl c (bfs c k)).length ≤ _
    rw [Nat.pow_succ]
    omega
theorem bfs_row {c : Cl} : ∀ k, ∀ row ∈ bfs c k, row.length = k
  | 0, row, h => by simp [bfs] at h; simp [h]
  | k + 1, row, h => by
    have h : row ∈ lvl c (bfs c k) := h
    unfold lvl at h
    obtain ⟨r0, h0, h1⟩ := List.mem_flatMap.mp h
    obtain ⟨ms, h2, rfl⟩ := List.mem_map.mp (List.mem_filter.mp h1).1
    rw [List.length_append, bfs_row k r0 h0]
    rfl
theorem eP_snoc (p : List (List Int)) (ms : List Int) : PyData.tuple (p.map tupI ++ [tupI ms]) = eP (p ++ [ms]) := by unfold eP; simp
theorem v_law_longer (A : Ads) (c : Cl) (hc : OkC c) (rows : List (List (List Int))) (hr : rows.length ≤ 512) (hrl : ∀ row ∈ rows, row.length ≤ 10) : F__law_longer A [.obj A.C (fl c), .da (.list (rows.map eP))] = some (.ret (.da (.list ((lvl c rows).map eP))) []) := by
  have hn : c.rooms.length ≤ 1000 := by have := hc.rl; omega
  have hsz : c.sizes.length ≤ 1000 := by have := hc.sl; omega
  have loop : ∃ z3 z4, free z3 = true ∧ free z4 = true ∧ c2__law_longer A [some (.obj A.C (fl c)), some (.da (.list (rows.map eP))), some (.da (.list [])), none, none, none, none] =
      some (.nx [some (.obj A.C (fl c)), some (.da (.list (rows.map eP))), some (.da (.list ((lvl c rows).map eP))), z3, z4, none, none]) := by
    obtain ⟨e, h1, z3, z4, h3, h4, rfl⟩ := forS_inv eP (fi := siM (varM 1)) (g := setM 3) (body := seqS (setS 4 (c0__law_longer A)) (setS 2 (op2M addD (varM 2) (c1__law_longer A))))
      (l := rows) (env := [some (.obj A.C (fl c)), some (.da (.list (rows.map eP))), some (.da (.list [])), none, none, none, none])
      (fun done e => ∃ z3 z4, free z3 = true ∧ free z4 = true ∧ e = [some (.obj A.C (fl c)), some (.da (.list (rows.map eP))), some (.da (.list ((lvl c done).map eP))), z3, z4, none, none])
      (by rfl) ⟨none, none, rfl, rfl, rfl⟩ (fun done row rest env hd hp => by
        obtain ⟨z3, z4, n3, n4, rfl⟩ := hp
        have hrow := hrl row (by rw [← hd]; simp)
        have hdl : done.length + 1 ≤ 512 := by
          have h := congrArg List.length hd
          rw [List.length_append, List.length_cons] at h
          omega
        have hll := lvl_len hc done
        generalize hL : lvl c done = L at *
        have w0 : c0__law_longer A [some (.obj A.C (fl c)), some (.da (.list (rows.map eP))), some (.da (.list (L.map eP))), some (.da (eP row)), z4, none, none] =
            some (.ok (.da (.list (((ch c).map fun ms => row ++ [ms]).map eP))) [some (.obj A.C (fl c)), some (.da (.list (rows.map eP))), some (.da (.list (L.map eP))), some (.da (eP row)), z4, none, none]) := by
          unfold c0__law_longer
          rw [lcM_tl tupI (l := ch c) (fun ms => some (eP (row ++ [ms]))) ?_ (by have := ch_len hc; unfold LIM; omega) (fun ms hms => ?_), filterMap_some]
          · rw [List.map_map]; rfl
          · simp [Pd.runN, Pd.runF, Pd.seqS, Pd.ifS, Pd.retS, Pd.withE, Pd.andV, Pd.orV, Pd.boolM, Pd.notM, Pd.andM, Pd.orM, Pd.ifM, Pd.isiM, Pd.bindM, Pd.varM, Pd.liftO, Pd.isiD, Pd.tyOfD, Pd.asB, Pd.notV, Pd.chainM, Pd.op2M, Pd.leD, Pd.ltD, Pd.gtD, Pd.geD, Pd.intD, Pd.retM, Pd.outOf, Pd.ownAt, Pd.bltM, Pd.vals, Pd.lenD, Pd.consM, Pd.callM, Pd.ownSlots, Pd.svsOf, Pd.svOf, Pd.setOwn, Pd.nxS, Pd.setM, isOwn_zero, isOwn_succ, isOwn_nil, isOD_zero, isOD_succ, isOD_nil, ownB_free, mrg_free, Pd.wipeE, mergeE_nil, mergeE_cons, Pd.fldM, Pd.fldOf, fl_rooms, fl_sizes, fl_zones, fl_far, fl_alive, fl_apart, Pd.siM, Pd.seqOf, Pd.asgS, Pd.setS, Pd.dropS, v_law_choices A c hc]
          · have h1 : row.length + 1 ≤ LIM := by unfold LIM; omega
            have ep : eP row = .tuple (row.map tupI) := rfl
            unfold stepV
            rw [ep]
            simp [Pd.runN, Pd.runF, Pd.seqS, Pd.ifS, Pd.retS, Pd.withE, Pd.andV, Pd.orV, Pd.boolM, Pd.notM, Pd.andM, Pd.orM, Pd.ifM, Pd.isiM, Pd.bindM, Pd.varM, Pd.liftO, Pd.isiD, Pd.tyOfD, Pd.asB, Pd.notV, Pd.chainM, Pd.op2M, Pd.leD, Pd.ltD, Pd.gtD, Pd.geD, Pd.intD, Pd.retM, Pd.outOf, Pd.ownAt, Pd.bltM, Pd.vals, Pd.lenD, Pd.consM, Pd.callM, Pd.ownSlots, Pd.svsOf, Pd.svOf, Pd.setOwn, Pd.nxS, Pd.setM, isOwn_zero, isOwn_succ, isOwn_nil, isOD_zero, isOD_succ, isOD_nil, ownB_free, mrg_free, Pd.wipeE, mergeE_nil, mergeE_cons, Pd.fldM, Pd.fldOf, fl_rooms, fl_sizes, fl_zones, fl_far, fl_alive, fl_apart, Pd.siM, Pd.seqOf, Pd.asgS, Pd.setS, Pd.dropS, tupM, datas, addD, h1, eP_snoc, n4]
        have w1 : c1__law_longer A [some (.obj A.C (fl c)), some (.da (.list (rows.map eP))), some (.da (.list (L.map eP))), some (.da (eP row)), some (.da (.list (((ch c).map fun ms => row ++ [ms]).map eP))), none, none] =
            some (.ok (.da (.list ((((ch c).map fun ms => row ++ [ms]).filter (fits c)).map eP))) [some (.obj A.C (fl c)), some (.da (.list (rows.map eP))), some (.da (.list (L.map eP))), some (.da (eP row)), some (.da (.list (((ch c).map fun ms => row ++ [ms]).map eP))), none, none]) := by
          unfold c1__law_longer
          rw [lcM_tl eP (l := (ch c).map fun ms => row ++ [ms]) (fun q => if fits c q = true then some (eP q) else none) (by rfl) (by rw [List.length_map]; have := ch_len hc; unfold LIM; omega) (fun q hq => ?_), filterMap_ite]
          have := v_law_fits A c q hn hsz
          unfold stepV
          cases h : fits c q <;> simp [Pd.runN, Pd.runF, Pd.seqS, Pd.ifS, Pd.retS, Pd.withE, Pd.andV, Pd.orV, Pd.boolM, Pd.notM, Pd.andM, Pd.orM, Pd.ifM, Pd.isiM, Pd.bindM, Pd.varM, Pd.liftO, Pd.isiD, Pd.tyOfD, Pd.asB, Pd.notV, Pd.chainM, Pd.op2M, Pd.leD, Pd.ltD, Pd.gtD, Pd.geD, Pd.intD, Pd.retM, Pd.outOf, Pd.ownAt, Pd.bltM, Pd.vals, Pd.lenD, Pd.consM, Pd.callM, Pd.ownSlots, Pd.svsOf, Pd.svOf, Pd.setOwn, Pd.nxS, Pd.setM, isOwn_zero, isOwn_succ, isOwn_nil, isOD_zero, isOD_succ, isOD_nil, ownB_free, mrg_free, Pd.wipeE, mergeE_nil, mergeE_cons, Pd.fldM, Pd.fldOf, fl_rooms, fl_sizes, fl_zones, fl_far, fl_alive, fl_apart, Pd.siM, Pd.seqOf, Pd.asgS, Pd.setS, Pd.dropS, this, h]
        have hadd : (L.length + (((ch c).map fun ms => row ++ [ms]).filter (fits c)).length ≤ LIM) := by
          have h1 : (((ch c).map fun ms => row ++ [ms]).filter (fits c)).length ≤ 8 := by
            refine Nat.le_trans (List.length_filter_le _ _) ?_
            rw [List.length_map]
            exact ch_len hc
          unfold LIM; omega
        have hadd2 : addD (.da (.list (L.map eP))) (.da (.list ((((ch c).map fun ms => row ++ [ms]).filter (fits c)).map eP))) = some (.da (.list ((L ++ ((ch c).map fun ms => row ++ [ms]).filter (fits c)).map eP))) := by
          simp only [addD, List.length_map, if_pos hadd, List.map_append]
        generalize hM : ((ch c).map fun ms => row ++ [ms]) = M at *
        refine ⟨_, _, by simp [Pd.runN, Pd.runF, Pd.seqS, Pd.ifS, Pd.retS, Pd.withE, Pd.andV, Pd.orV, Pd.boolM, Pd.notM, Pd.andM, Pd.orM, Pd.ifM, Pd.isiM, Pd.bindM, Pd.varM, Pd.liftO, Pd.isiD, Pd.tyOfD, Pd.asB, Pd.notV, Pd.chainM, Pd.op2M, Pd.leD, Pd.ltD, Pd.gtD, Pd.geD, Pd.intD, Pd.retM, Pd.outOf, Pd.ownAt, Pd.bltM, Pd.vals, Pd.lenD, Pd.consM, Pd.callM, Pd.ownSlots, Pd.svsOf, Pd.svOf, Pd.setOwn, Pd.nxS, Pd.setM, isOwn_zero, isOwn_succ, isOwn_nil, isOD_zero, isOD_succ, isOD_nil, ownB_free, mrg_free, Pd.wipeE, mergeE_nil, mergeE_cons, Pd.fldM, Pd.fldOf, fl_rooms, fl_sizes, fl_zones, fl_far, fl_alive, fl_apart, Pd.siM, Pd.seqOf, Pd.asgS, Pd.setS, Pd.dropS, n3]; rfl, .inl (by simp [Pd.runN, Pd.runF, Pd.seqS, Pd.ifS, Pd.retS, Pd.withE, Pd.andV, Pd.orV, Pd.boolM, Pd.notM, Pd.andM, Pd.orM, Pd.ifM, Pd.isiM, Pd.bindM, Pd.varM, Pd.liftO, Pd.isiD, Pd.tyOfD, Pd.asB, Pd.notV, Pd.chainM, Pd.op2M, Pd.leD, Pd.ltD, Pd.gtD, Pd.geD, Pd.intD, Pd.retM, Pd.outOf, Pd.ownAt, Pd.bltM, Pd.vals, Pd.lenD, Pd.consM, Pd.callM, Pd.ownSlots, Pd.svsOf, Pd.svOf, Pd.setOwn, Pd.nxS, Pd.setM, isOwn_zero, isOwn_succ, isOwn_nil, isOD_zero, isOD_succ, isOD_nil, ownB_free, mrg_free, Pd.wipeE, mergeE_nil, mergeE_cons, Pd.fldM, Pd.fldOf, fl_rooms, fl_sizes, fl_zones, fl_far, fl_alive, fl_apart, Pd.siM, Pd.seqOf, Pd.asgS, Pd.setS, Pd.dropS, w0, w1, hadd2, n4]; rfl), some (.da (eP row)), some (.da (.list (M.map eP))), rfl, rfl, ?_⟩
        have : lvl c (done ++ [row]) = L ++ M.filter (fits c) := by
          rw [← hL, ← hM]; unfold lvl; simp
        rw [this, List.map_append])
    exact ⟨z3, z4, h3, h4, h1⟩
  obtain ⟨z3, z4, h3, h4, hloop⟩ := loop
  unfold F__law_longer g__law_longer
  simp [Pd.runN, Pd.runF, Pd.seqS, Pd.ifS, Pd.retS, Pd.withE, Pd.andV, Pd.orV, Pd.boolM, Pd.notM, Pd.andM, Pd.orM, Pd.ifM, Pd.isiM, Pd.bindM, Pd.varM, Pd.liftO, Pd.isiD, Pd.tyOfD, Pd.asB, Pd.notV, Pd.chainM, Pd.op2M, Pd.leD, Pd.ltD, Pd.gtD, Pd.geD, Pd.intD, Pd.retM, Pd.outOf, Pd.ownAt, Pd.bltM, Pd.vals, Pd.lenD, Pd.consM, Pd.callM, Pd.ownSlots, Pd.svsOf, Pd.svOf, Pd.setOwn, Pd.nxS, Pd.setM, isOwn_zero, isOwn_succ, isOwn_nil, isOD_zero, isOD_succ, isOD_nil, ownB_free, mrg_free, Pd.wipeE, mergeE_nil, mergeE_cons, Pd.fldM, Pd.fldOf, fl_rooms, fl_sizes, fl_zones, fl_far, fl_alive, fl_apart, Pd.siM, Pd.seqOf, Pd.asgS, Pd.setS, Pd.dropS, lstM, datas, hloop]
theorem v_law_every (A : Ads) (c : Cl) (hc : OkC c) : F__law_every A [.obj A.C (fl c)] = some (.ret (.da (.list ((allP c).map eP))) []) := by
  have loop : ∃ z2, free z2 = true ∧ c0__law_every A [some (.obj A.C (fl c)), some (.da (.list [eP []])), none] = some (.nx [some (.obj A.C (fl c)), some (.da (.list ((bfs c c.sizes.length).map eP))), z2]) := by
    obtain ⟨e, h1, z2, h2, rfl⟩ := forS_inv PyData.int (fi := siM (fldM A.C "_sizes" (varM 0))) (g := setM 2) (body := setS 1 (Pd.bindM (consM (varM 0) (consM (varM 1) (retM []))) (callM (F__law_longer A))))
      (l := c.sizes) (env := [some (.obj A.C (fl c)), some (.da (.list [eP []])), none])
      (fun done e => ∃ z2, free z2 = true ∧ e = [some (.obj A.C (fl c)), some (.da (.list ((bfs c done.length).map eP))), z2])
      (by simp [Pd.runN, Pd.runF, Pd.seqS, Pd.ifS, Pd.retS, Pd.withE, Pd.andV, Pd.orV, Pd.boolM, Pd.notM, Pd.andM, Pd.orM, Pd.ifM, Pd.isiM, Pd.bindM, Pd.varM, Pd.liftO, Pd.isiD, Pd.tyOfD, Pd.asB, Pd.notV, Pd.chainM, Pd.op2M, Pd.leD, Pd.ltD, Pd.gtD, Pd.geD, Pd.intD, Pd.retM, Pd.outOf, Pd.ownAt, Pd.bltM, Pd.vals, Pd.lenD, Pd.consM, Pd.callM, Pd.ownSlots, Pd.svsOf, Pd.svOf, Pd.setOwn, Pd.nxS, Pd.setM, isOwn_zero, isOwn_succ, isOwn_nil, isOD_zero, isOD_succ, isOD_nil, ownB_free, mrg_free, Pd.wipeE, mergeE_nil, mergeE_cons, Pd.fldM, Pd.fldOf, fl_rooms, fl_sizes, fl_zones, fl_far, fl_alive, fl_apart, Pd.siM, Pd.seqOf, Pd.asgS, Pd.setS, Pd.dropS]) ⟨none, rfl, rfl⟩ (fun done s rest env hd hp => by
        obtain ⟨z2, n2, rfl⟩ := hp
        have hdl : done.length ≤ 3 := by
          have h := congrArg List.length hd
          rw [List.length_append, List.length_cons] at h
          have := hc.sl; omega
        have := v_law_longer A c hc (bfs c done.length) (Nat.le_trans (bfs_len hc _) (pow8 _ hdl)) (fun row hr => by rw [bfs_row _ row hr]; omega)
        refine ⟨_, _, by simp [Pd.runN, Pd.runF, Pd.seqS, Pd.ifS, Pd.retS, Pd.withE, Pd.andV, Pd.orV, Pd.boolM, Pd.notM, Pd.andM, Pd.orM, Pd.ifM, Pd.isiM, Pd.bindM, Pd.varM, Pd.liftO, Pd.isiD, Pd.tyOfD, Pd.asB, Pd.notV, Pd.chainM, Pd.op2M, Pd.leD, Pd.ltD, Pd.gtD, Pd.geD, Pd.intD, Pd.retM, Pd.outOf, Pd.ownAt, Pd.bltM, Pd.vals, Pd.lenD, Pd.consM, Pd.callM, Pd.ownSlots, Pd.svsOf, Pd.svOf, Pd.setOwn, Pd.nxS, Pd.setM, isOwn_zero, isOwn_succ, isOwn_nil, isOD_zero, isOD_succ, isOD_nil, ownB_free, mrg_free, Pd.wipeE, mergeE_nil, mergeE_cons, Pd.fldM, Pd.fldOf, fl_rooms, fl_sizes, fl_zones, fl_far, fl_alive, fl_apart, Pd.siM, Pd.seqOf, Pd.asgS, Pd.setS, Pd.dropS, n2]; rfl, .inl (by simp [Pd.runN, Pd.runF, Pd.seqS, Pd.ifS, Pd.retS, Pd.withE, Pd.andV, Pd.orV, Pd.boolM, Pd.notM, Pd.andM, Pd.orM, Pd.ifM, Pd.isiM, Pd.bindM, Pd.varM, Pd.liftO, Pd.isiD, Pd.tyOfD, Pd.asB, Pd.notV, Pd.chainM, Pd.op2M, Pd.leD, Pd.ltD, Pd.gtD, Pd.geD, Pd.intD, Pd.retM, Pd.outOf, Pd.ownAt, Pd.bltM, Pd.vals, Pd.lenD, Pd.consM, Pd.callM, Pd.ownSlots, Pd.svsOf, Pd.svOf, Pd.setOwn, Pd.nxS, Pd.setM, isOwn_zero, isOwn_succ, isOwn_nil, isOD_zero, isOD_succ, isOD_nil, ownB_free, mrg_free, Pd.wipeE, mergeE_nil, mergeE_cons, Pd.fldM, Pd.fldOf, fl_rooms, fl_sizes, fl_zones, fl_far, fl_alive, fl_apart, Pd.siM, Pd.seqOf, Pd.asgS, Pd.setS, Pd.dropS, this]; rfl), some (.da (.int s)), rfl, ?_⟩
        rw [List.length_append]; rfl)
    exact ⟨z2, h2, h1⟩
  obtain ⟨z2, h2, hloop⟩ := loop
  rw [bfs_allP] at hloop
  have ep : eP [] = .tuple [] := rfl
  rw [ep] at hloop
  unfold F__law_every g__law_every
  simp [Pd.runN, Pd.runF, Pd.seqS, Pd.ifS, Pd.retS, Pd.withE, Pd.andV, Pd.orV, Pd.boolM, Pd.notM, Pd.andM, Pd.orM, Pd.ifM, Pd.isiM, Pd.bindM, Pd.varM, Pd.liftO, Pd.isiD, Pd.tyOfD, Pd.asB, Pd.notV, Pd.chainM, Pd.op2M, Pd.leD, Pd.ltD, Pd.gtD, Pd.geD, Pd.intD, Pd.retM, Pd.outOf, Pd.ownAt, Pd.bltM, Pd.vals, Pd.lenD, Pd.consM, Pd.callM, Pd.ownSlots, Pd.svsOf, Pd.svOf, Pd.setOwn, Pd.nxS, Pd.setM, isOwn_zero, isOwn_succ, isOwn_nil, isOD_zero, isOD_succ, isOD_nil, ownB_free, mrg_free, Pd.wipeE, mergeE_nil, mergeE_cons, Pd.fldM, Pd.fldOf, fl_rooms, fl_sizes, fl_zones, fl_far, fl_alive, fl_apart, Pd.siM, Pd.seqOf, Pd.asgS, Pd.setS, Pd.dropS, lstM, tupM, datas, hloop]
end K01
end
section
set_option Elab.async false
set_option linter.all false
set_option maxRecDepth 100000
set_option maxHeartbeats 1000000
namespace K01
open PySem Pd
/-! ### equality of data without truth values -/
inductive Pln : Nat → PyData → Prop
  | non {k} : Pln k .none
  | int {k} (i : Int) : Pln k (.int i)
  | str {k} {s : Str} (h : PyData.strOk s = true) : Pln k (.str s)
  | list {k} {xs : List PyData} (h : ∀ x ∈ xs, Pln k x) : Pln (k + 1) (.list xs)
  | tuple {k} {xs : List PyData} (h : ∀ x ∈ xs, Pln k x) : Pln (k + 1) (.tuple xs)
theorem pln_all {k : Nat} (ih : ∀ d, Pln k d → d.canLay0 = true ∧ d.depth ≤ k) : ∀ xs : List PyData, (∀ x ∈ xs, Pln k x) → PyData.canLayAll0 xs = true ∧ PyData.depthAll xs ≤ k
  | [], _ => ⟨rfl, by simp [PyData.depthAll]⟩
  | x :: xs, h => by
    obtain ⟨h1, h2⟩ := pln_all ih xs fun y hy => h y (.tail _ hy)
    obtain ⟨h3, h4⟩ := ih x (h x (.head _))
    refine ⟨by simp [PyData.canLayAll0, h1, h3], ?_⟩
    simp only [PyData.depthAll]
    exact Nat.max_le.mpr ⟨h4, h2⟩
theorem Pln.lay : ∀ {k : Nat} {d : PyData}, Pln k d → d.canLay0 = true ∧ d.depth ≤ k := by
  intro k
  induction k with
  | zero => intro d h; cases h with
    | non => exact ⟨rfl, by simp [PyData.depth]⟩
    | int i => exact ⟨rfl, by simp [PyData.depth]⟩
    | str h => exact ⟨by simpa [PyData.canLay0] using h, by simp [PyData.depth]⟩
  | succ k ih => intro d h; cases h with
    | non => exact ⟨rfl, by simp [PyData.depth]⟩
    | int i => exact ⟨rfl, by simp [PyData.depth]⟩
    | str h => exact ⟨by simpa [PyData.canLay0] using h, by simp [PyData.depth]⟩
    | list h =>
      obtain ⟨h1, h2⟩ := pln_all (fun d => ih) _ h
      exact ⟨by simpa [PyData.canLay0] using h1, by simp only [PyData.depth]; omega⟩
    | tuple h =>
      obtain ⟨h1, h2⟩ := pln_all (fun d => ih) _ h
      exact ⟨by simpa [PyData.canLay0] using h1, by simp only [PyData.depth]; omega⟩
theorem Pln.shaped {k : Nat} {d : PyData} (h : Pln k d) (hk : k ≤ 64 := by decide) : SeqAt.shaped d = true := by
  have := h.lay
  simp [SeqAt.shaped, this.1]
  omega
theorem eqv_all {k : Nat} (ih : ∀ a b, Pln k a → Pln k b → (PyData.eqv a b = true ↔ a = b)) : ∀ xs ys : List PyData, (∀ x ∈ xs, Pln k x) → (∀ y ∈ ys, Pln k y) → (PyData.eqvAll xs ys = true ↔ xs = ys)
  | [], [], _, _ => by simp [PyData.eqvAll]
  | [], _ :: _, _, _ => by simp [PyData.eqvAll]
  | _ :: _, [], _, _ => by simp [PyData.eqvAll]
  | x :: xs, y :: ys, hx, hy => by
    have h1 := ih x y (hx x (.head _)) (hy y (.head _))
    have h2 := eqv_all ih xs ys (fun z hz => hx z (.tail _ hz)) fun z hz => hy z (.tail _ hz)
    simp [PyData.eqvAll, h1, h2]
theorem eqv_leaf {k : Nat} (ih : ∀ xs ys : List PyData, (∀ x ∈ xs, Pln k x) → (∀ y ∈ ys, Pln k y) → (PyData.eqvAll xs ys = true ↔ xs = ys)) {a b : PyData} (ha : Pln (k + 1) a) (hb : Pln (k + 1) b) : PyData.eqv a b = true ↔ a = b := by
  cases ha with
  | non => cases hb <;> simp [PyData.eqv]
  | int i => cases hb <;> simp [PyData.eqv]
  | str h => cases hb <;> simp [PyData.eqv]
  | list h => cases hb with
    | list h' => simp [PyData.eqv, ih _ _ h h']
    | _ => simp [PyData.eqv]
  | tuple h => cases hb with
    | tuple h' => simp [PyData.eqv, ih _ _ h h']
    | _ => simp [PyData.eqv]
theorem eqv_pln : ∀ {k : Nat} {a b : PyData}, Pln k a → Pln k b → (PyData.eqv a b = true ↔ a = b) := by
  intro k
  induction k with
  | zero => intro a b ha hb; cases ha <;> cases hb <;> simp [PyData.eqv]
  | succ k ih => exact fun ha hb => eqv_leaf (eqv_all fun a b => ih) ha hb
/-- a way to write things as data -/
structure Enc {α : Type} (enc : α → PyData) (k : Nat) : Prop where
  pl : ∀ a, Pln k (enc a)
  inj : ∀ a b, enc a = enc b → a = b
theorem Enc.eqv {α : Type} [DecidableEq α] {enc : α → PyData} {k : Nat} (E : Enc enc k) (a b : α) : PyData.eqv (enc a) (enc b) = decide (a = b) := by
  have h := eqv_pln (E.pl a) (E.pl b)
  by_cases e : a = b
  · rw [h.mpr (by rw [e])]; simp [e]
  · cases hq : PyData.eqv (enc a) (enc b) with
    | false => simp [e]
    | true => exact absurd (E.inj _ _ (h.mp hq)) e
theorem Enc.eqD {α : Type} [DecidableEq α] {enc : α → PyData} {k : Nat} (E : Enc enc k) (a b : α) (hk : k ≤ 64 := by decide) : eqD (.da (enc a)) (.da (enc b)) = some (.da (.bool (decide (a = b)))) := by
  simp only [Pd.eqD, (E.pl a).shaped hk, (E.pl b).shaped hk, E.eqv, Bool.and_self, if_true]
theorem Enc.neD {α : Type} [DecidableEq α] {enc : α → PyData} {k : Nat} (E : Enc enc k) (a b : α) (hk : k ≤ 64 := by decide) : neD (.da (enc a)) (.da (enc b)) = some (.da (.bool (!decide (a = b)))) := by
  simp only [Pd.neD, (E.pl a).shaped hk, (E.pl b).shaped hk, E.eqv, Bool.and_self, if_true]
theorem map_inj {α : Type} {enc : α → PyData} (h : ∀ a b, enc a = enc b → a = b) : ∀ l m : List α, l.map enc = m.map enc → l = m
  | [], [], _ => rfl
  | [], _ :: _, e => by simp at e
  | _ :: _, [], e => by simp at e
  | a :: l, b :: m, e => by
    rw [List.map_cons, List.map_cons, List.cons.injEq] at e
    rw [h a b e.1, map_inj h l m e.2]
theorem Enc.list {α : Type} {enc : α → PyData} {k : Nat} (E : Enc enc k) : Enc (fun l : List α => PyData.list (l.map enc)) (k + 1) :=
  ⟨fun l => .list fun x hx => by obtain ⟨a, _, rfl⟩ := List.mem_map.mp hx; exact E.pl a, fun a b e => map_inj E.inj a b (by injection e)⟩
theorem Enc.tuple {α : Type} {enc : α → PyData} {k : Nat} (E : Enc enc k) : Enc (fun l : List α => PyData.tuple (l.map enc)) (k + 1) :=
  ⟨fun l => .tuple fun x hx => by obtain ⟨a, _, rfl⟩ := List.mem_map.mp hx; exact E.pl a, fun a b e => map_inj E.inj a b (by injection e)⟩
theorem encInt : Enc PyData.int 0 := ⟨fun i => .int i, fun a b e => by injection e⟩
theorem encI : Enc tupI 1 := encInt.tuple
theorem encP : Enc eP 2 := encI.tuple
theorem Enc.inL {α : Type} [DecidableEq α] {enc : α → PyData} {k : Nat} (E : Enc enc k) (neg : Bool) (a : α) (l : List α) (hk : k + 1 ≤ 64 := by decide) : inD neg (.da (enc a)) (.da (.list (l.map enc))) = some (.da (.bool (neg ^^ decide (a ∈ l)))) := by
  have h1 := (E.pl a).shaped (Nat.le_of_succ_le hk)
  have h2 := (E.list.pl l).shaped hk
  have h3 : ((l.map enc).any fun z => PyData.eqv z (enc a)) = decide (a ∈ l) := by
    rw [List.any_map]
    have : ((fun z => PyData.eqv z (enc a)) ∘ enc) = fun b => decide (b = a) := by
      funext b
      exact E.eqv b a
    rw [this]
    induction l with
    | nil => rfl
    | cons b l ih => 
      simp only [List.any_cons, ih (E.list.pl l |>.shaped hk), List.mem_cons]
      by_cases h : b = a
      · simp [h]
      · have : ¬ a = b := fun e => h e.symm
        simp [h, this]
  simp only [inD, h1, h2, h3, Bool.and_self, if_true]
/-! ### steps -/
inductive Stp
  | cp (sh : Nat) (src tgt : Int)
  | dp (sh : Nat) (m : Int)
deriving DecidableEq
def eS : Stp → PyData
  | .cp sh a b => .tuple [.str "copy", .int sh, .int a, .int b]
  | .dp sh m => .tuple [.str "drop", .int sh, .int m]
theorem encS : Enc eS 1 := by
  refine ⟨fun s => ?_, fun a b e => ?_⟩
  · cases s with
    | cp sh a b =>
      refine .tuple fun x hx => ?_
      simp only [List.mem_cons, List.not_mem_nil, or_false] at hx
      rcases hx with rfl | rfl | rfl | rfl
      · exact .str (by decide +kernel)
      · exact .int _
      · exact .int _
      · exact .int _
    | dp sh m =>
      refine .tuple fun x hx => ?_
      simp only [List.mem_cons, List.not_mem_nil, or_false] at hx
      rcases hx with rfl | rfl | rfl
      · exact .str (by decide +kernel)
      · exact .int _
      · exact .int _
  · cases a <;> cases b <;> simp [eS] at e ⊢
    · exact ⟨by omega, e.2⟩
    · exact ⟨by omega, e.2⟩
def eO {α : Type} (enc : α → PyData) : Option α → PyData
  | none => .none
  | some a => enc a
/-! ### slices, lengths, places -/
theorem len_eP (p : List (List Int)) : lenD [.da (eP p)] = some (.da (.int p.length)) := by simp [eP, lenD]
theorem len_tupI (p : List Int) : lenD [.da (tupI p)] = some (.da (.int p.length)) := by simp [tupI, lenD]
theorem cut_take (xs : List PyData) (k : Nat) : cutD xs none (some (k : Int)) = xs.take k := by
  unfold cutD
  rw [HT.sIx_none, HT.sIx_nat]
  simp
theorem cut_drop (xs : List PyData) (k : Nat) : cutD xs (some (k : Int)) none = xs.drop k := by
  unfold cutD
  rw [HT.sIx_none, HT.sIx_nat]
  rw [List.take_of_length_le (by simp)]
  by_cases h : k ≤ xs.length
  · rw [Nat.min_eq_left h]
  · rw [Nat.min_eq_right (by omega), List.drop_eq_nil_of_le (Nat.le_refl _), List.drop_eq_nil_of_le (by omega)]
theorem slice_take (p : List (List Int)) (k : Nat) : sliceD (.da (eP p)) none (some (k : Int)) = some (.da (eP (p.take k))) := by
  unfold eP
  simp only [sliceD, cut_take, List.map_take]
theorem slice_drop (p : List (List Int)) (k : Nat) : sliceD (.da (eP p)) (some ((k : Int) + 1)) none = some (.da (eP (p.drop (k + 1)))) := by
  have : ((k : Int) + 1) = ((k + 1 : Nat) : Int) := by omega
  unfold eP
  rw [this]
  simp only [sliceD, cut_drop, List.map_drop]
theorem add_eP (p q : List (List Int)) (h : p.length + q.length ≤ LIM) : addD (.da (eP p)) (.da (eP q)) = some (.da (eP (p ++ q))) := by
  unfold eP
  simp only [addD, List.length_map, if_pos h, List.map_append]
theorem add_tupI (p q : List Int) (h : p.length + q.length ≤ LIM) : addD (.da (tupI p)) (.da (tupI q)) = some (.da (tupI (p ++ q))) := by
  unfold tupI
  simp only [addD, List.length_map, if_pos h, List.map_append]
theorem atI_enc {α : Type} (enc : α → PyData) (l : List α) (k : Nat) : L2.atI (l.map enc) (k : Int) = (l[k]?).map enc := by
  rw [atI_nn (by omega)]
  simp
theorem ix_eP {p : List (List Int)} {k : Nat} {ms : List Int} (h : p[k]? = some ms) : ixD (.da (eP p)) (.da (.int k)) = some (.da (tupI ms)) := by
  unfold eP
  simp only [ixD, atI_enc, h, Option.map_some]
theorem ix_list {α : Type} (enc : α → PyData) {l : List α} {k : Nat} {a : α} (h : l[k]? = some a) : ixD (.da (.list (l.map enc))) (.da (.int k)) = some (.da (enc a)) := by
  simp only [ixD, atI_enc, h, Option.map_some]
theorem ix_ints {l : List Int} {m : Int} {a : Int} (h : 0 ≤ m) (e : l[m.toNat]? = some a) : ixD (.da (.list (l.map .int))) (.da (.int m)) = some (.da (.int a)) := by
  have : m = (m.toNat : Int) := by omega
  rw [this]
  exact ix_list PyData.int e
theorem ix_intsT {l : List Int} {m : Int} {a : Int} (h : 0 ≤ m) (e : l[m.toNat]? = some a) : ixD (.da (.tuple (l.map .int))) (.da (.int m)) = some (.da (.int a)) := by
  have : m = (m.toNat : Int) := by omega
  rw [this]
  simp only [ixD, atI_enc, e, Option.map_some]
theorem in_tupI (neg : Bool) (m : Int) (ms : List Int) : inD neg (.da (.int m)) (.da (tupI ms)) = some (.da (.bool (neg ^^ decide (m ∈ ms)))) := by
  unfold tupI
  simp [inD, intsOf_map]
theorem sorted_ints (l : List Int) : sortedD [.da (.list (l.map .int))] = some (.da (.list ((isort l).map .int))) := by
  simp [sortedD, intsOf_map]
theorem sorted_tupI (l : List Int) : sortedD [.da (tupI l)] = some (.da (.list ((isort l).map .int))) := by
  simp [sortedD, tupI, intsOf_map]
theorem tuple_ints (l : List Int) : tupleD [.da (.list (l.map .int))] = some (.da (tupI l)) := rfl
end K01
end
section
set_option Elab.async false
set_option linter.all false
set_option maxRecDepth 100000
set_option maxHeartbeats 1000000
namespace K01
open PySem Pd
/-! ### one step -/
theorem asc_len {n : Int} : ∀ {ms : List Int} {low : Int}, Asc n low ms → low ≤ n → low + ms.length ≤ n
  | [], low, _, h => by simpa using h
  | a :: r, low, h, _ => by
    have h3 := h.2.2
    have := asc_len h3 (by have := h.2.1; omega)
    have := h.1
    simp only [List.length_cons]; omega
def wi (p : List (List Int)) (sh : Nat) (ms : List Int) : List (List Int) := p.take sh ++ [ms] ++ p.drop (sh + 1)
def rp (c : Cl) (p : List (List Int)) (sh : Nat) (ms : List Int) : Option (List (List Int)) := if mayLie c ms = true then some (wi p sh ms) else none
def msOf (p : List (List Int)) (sh : Nat) : List Int := (p[sh]?).getD []
def size (c : Cl) (sh : Nat) : Int := (c.sizes[sh]?).getD 0
def cpR (c : Cl) (p : List (List Int)) (sh : Nat) (t : Int) : Option (List (List Int)) := if t ∈ msOf p sh ∨ room c t < hl c p t + size c sh then none else rp c p sh (isort (msOf p sh ++ [t]))
def drR (c : Cl) (p : List (List Int)) (sh : Nat) (m : Int) : Option (List (List Int)) := if m ∈ msOf p sh then rp c p sh ((msOf p sh).filter fun x => decide (x ≠ m)) else none
theorem sing_eP (ms : List Int) : PyData.tuple [tupI ms] = eP [ms] := rfl
theorem v_replaced (A : Ads) (c : Cl) (hc : OkC c) (p : List (List Int)) (sh : Nat) (ms : List Int) (hp : p.length ≤ 10) (h : ∀ m ∈ ms, inR c m) (hl : ms.length ≤ 60) :
    F__replaced A [.obj A.C (fl c), .da (eP p), .da (.int sh), .da (tupI ms)] = some (.ret (.da (eO eP (rp c p sh ms))) []) := by
  have h1 := v_may_lie A c ms hc.zl h hl
  have h2 : (p.take sh).length + [ms].length ≤ LIM := by rw [List.length_take]; simp [LIM]; omega
  have h3 : (p.take sh ++ [ms]).length + (p.drop (sh + 1)).length ≤ LIM := by rw [List.length_append, List.length_take, List.length_drop]; simp [LIM]; omega
  have a1 := add_eP _ _ h2
  have a2 := add_eP _ _ h3
  unfold F__replaced g__replaced rp
  cases hm : mayLie c ms with
  | false => simp [Pd.runN, Pd.runF, Pd.seqS, Pd.ifS, Pd.retS, Pd.withE, Pd.andV, Pd.orV, Pd.boolM, Pd.notM, Pd.andM, Pd.orM, Pd.ifM, Pd.isiM, Pd.bindM, Pd.varM, Pd.liftO, Pd.isiD, Pd.tyOfD, Pd.asB, Pd.notV, Pd.chainM, Pd.op2M, Pd.leD, Pd.ltD, Pd.gtD, Pd.geD, Pd.intD, Pd.retM, Pd.outOf, Pd.ownAt, Pd.bltM, Pd.vals, Pd.lenD, Pd.consM, Pd.callM, Pd.ownSlots, Pd.svsOf, Pd.svOf, Pd.setOwn, Pd.nxS, Pd.setM, isOwn_zero, isOwn_succ, isOwn_nil, isOD_zero, isOD_succ, isOD_nil, ownB_free, mrg_free, Pd.wipeE, mergeE_nil, mergeE_cons, Pd.fldM, Pd.fldOf, fl_rooms, fl_sizes, fl_zones, fl_far, fl_alive, fl_apart, Pd.siM, Pd.seqOf, Pd.asgS, Pd.setS, Pd.dropS, h1, hm, eO]
  | true => simp [Pd.runN, Pd.runF, Pd.seqS, Pd.ifS, Pd.retS, Pd.withE, Pd.andV, Pd.orV, Pd.boolM, Pd.notM, Pd.andM, Pd.orM, Pd.ifM, Pd.isiM, Pd.bindM, Pd.varM, Pd.liftO, Pd.isiD, Pd.tyOfD, Pd.asB, Pd.notV, Pd.chainM, Pd.op2M, Pd.leD, Pd.ltD, Pd.gtD, Pd.geD, Pd.intD, Pd.retM, Pd.outOf, Pd.ownAt, Pd.bltM, Pd.vals, Pd.lenD, Pd.consM, Pd.callM, Pd.ownSlots, Pd.svsOf, Pd.svOf, Pd.setOwn, Pd.nxS, Pd.setM, isOwn_zero, isOwn_succ, isOwn_nil, isOD_zero, isOD_succ, isOD_nil, ownB_free, mrg_free, Pd.wipeE, mergeE_nil, mergeE_cons, Pd.fldM, Pd.fldOf, fl_rooms, fl_sizes, fl_zones, fl_far, fl_alive, fl_apart, Pd.siM, Pd.seqOf, Pd.asgS, Pd.setS, Pd.dropS, h1, hm, eO, sliceM, partM, asI, slice_take, slice_drop, tupM, datas, sing_eP, a1, a2, addD.eq_1, wi]
theorem datas_star (ds : List PyData) (as : List Pd.Arg) : datas (ds.map (fun d => Pd.Arg.v (.da d)) ++ as) = (datas as).map (ds ++ ·) := by
  induction ds with
  | nil => simp
  | cons d ds ih =>
    show (datas (ds.map (fun d => Pd.Arg.v (.da d)) ++ as)).map (d :: ·) = _
    rw [ih]
    cases datas as <;> rfl
theorem datas_starI (ms : List Int) (as : List Pd.Arg) : datas (ms.map ((fun d => Pd.Arg.v (.da d)) ∘ PyData.int) ++ as) = (datas as).map (ms.map .int ++ ·) := by
  rw [← datas_star, List.map_map]
theorem seq_tupI (ms : List Int) : seqOf (.da (tupI ms)) = some (ms.map .int) := rfl
theorem seq_eP (p : List (List Int)) : seqOf (.da (eP p)) = some (p.map tupI) := rfl
theorem seq_list (p : List PyData) : seqOf (.da (.list p)) = some p := rfl
theorem room_at {c : Cl} {t : Int} (h : inR c t) : c.rooms[t.toNat]? = some (room c t) := by
  unfold room
  have : t.toNat < c.rooms.length := by have := h.1; have := h.2; omega
  simp [this]
theorem loads_at {c : Cl} {p : List (List Int)} {t : Int} (h : inR c t) : (loads c p)[t.toNat]? = some (hl c p t) := by
  unfold loads
  have h1 : t.toNat < c.rooms.length := by have := h.1; have := h.2; omega
  rw [List.getElem?_map, ns_get h1]
  have : (t.toNat : Int) = t := by have := h.1; omega
  simp [this]
theorem size_at {c : Cl} {sh : Nat} (h : sh < c.sizes.length) : c.sizes[sh]? = some (size c sh) := by
  unfold size
  simp [h]
theorem mem_isort {l : List Int} {x : Int} : x ∈ isort l ↔ x ∈ l := (isort_perm l).mem_iff
theorem len_isort (l : List Int) : (isort l).length = l.length := (isort_perm l).length_eq
theorem ix_size {c : Cl} {sh : Nat} (h : sh < c.sizes.length) : ixD (.da (.tuple (c.sizes.map .int))) (.da (.int sh)) = some (.da (.int (size c sh))) := ix_intsT (by omega) (by simpa using size_at h)
theorem ix_room {c : Cl} {t : Int} (h : inR c t) : ixD (.da (.tuple (c.rooms.map .int))) (.da (.int t)) = some (.da (.int (room c t))) := ix_intsT h.1 (room_at h)
theorem ix_zone {c : Cl} (hc : OkC c) {t : Int} (h : inR c t) : ixD (.da (.tuple (c.zones.map .int))) (.da (.int t)) = some (.da (.int (zn c t))) := by
  refine ix_intsT h.1 ?_
  have := zone_at (c := c) (m := t) (by rw [hc.zl]; exact h)
  rwa [atI_nn h.1] at this
theorem ix_loads {c : Cl} {p : List (List Int)} {t : Int} (h : inR c t) : ixD (.da (.list ((loads c p).map .int))) (.da (.int t)) = some (.da (.int (hl c p t))) := ix_ints h.1 (loads_at h)
theorem add_int (i j : Int) : addD (.da (.int i)) (.da (.int j)) = some (.da (.int (i + j))) := rfl
theorem v_copied (A : Ads) (c : Cl) (hc : OkC c) (p : List (List Int)) (sh : Nat) (t : Int) (ms : List Int) (hp : p.length ≤ 10) (hs : sh < c.sizes.length) (hm : p[sh]? = some ms) (h : ∀ m ∈ ms, inR c m) (hl : ms.length ≤ 50) (ht : inR c t) :
    F__copied A [.obj A.C (fl c), .da (eP p), .da (.list ((loads c p).map .int)), .da (.int sh), .da (.int t)] = some (.ret (.da (eO eP (cpR c p sh t))) []) := by
  have e1 : msOf p sh = ms := by unfold msOf; rw [hm]; rfl
  have r := v_replaced A c hc p sh (isort (ms ++ [t])) hp (fun m h' => by
    rw [mem_isort] at h'
    rcases List.mem_append.mp h' with h' | h'
    · exact h m h'
    · rw [List.mem_singleton] at h'; rw [h']; exact ht) (by rw [len_isort, List.length_append]; simp; omega)
  have es := sorted_ints (ms ++ [t])
  rw [List.map_append] at es
  have hl2 : ms.length + 1 ≤ 1000 := by omega
  unfold F__copied g__copied cpR
  rw [e1]
  by_cases h1 : t ∈ ms
  · simp [Pd.runN, Pd.runF, Pd.seqS, Pd.ifS, Pd.retS, Pd.withE, Pd.andV, Pd.orV, Pd.boolM, Pd.notM, Pd.andM, Pd.orM, Pd.ifM, Pd.isiM, Pd.bindM, Pd.varM, Pd.liftO, Pd.isiD, Pd.tyOfD, Pd.asB, Pd.notV, Pd.chainM, Pd.op2M, Pd.leD, Pd.ltD, Pd.gtD, Pd.geD, Pd.intD, Pd.retM, Pd.outOf, Pd.ownAt, Pd.bltM, Pd.vals, Pd.lenD, Pd.consM, Pd.callM, Pd.ownSlots, Pd.svsOf, Pd.svOf, Pd.setOwn, Pd.nxS, Pd.setM, isOwn_zero, isOwn_succ, isOwn_nil, isOD_zero, isOD_succ, isOD_nil, ownB_free, mrg_free, Pd.wipeE, mergeE_nil, mergeE_cons, Pd.fldM, Pd.fldOf, fl_rooms, fl_sizes, fl_zones, fl_far, fl_alive, fl_apart, Pd.siM, Pd.seqOf, Pd.asgS, Pd.setS, Pd.dropS, ix_eP hm, in_tupI, h1, eO]
  · by_cases h2 : room c t < K01.hl c p t + size c sh
    · simp [Pd.runN, Pd.runF, Pd.seqS, Pd.ifS, Pd.retS, Pd.withE, Pd.andV, Pd.orV, Pd.boolM, Pd.notM, Pd.andM, Pd.orM, Pd.ifM, Pd.isiM, Pd.bindM, Pd.varM, Pd.liftO, Pd.isiD, Pd.tyOfD, Pd.asB, Pd.notV, Pd.chainM, Pd.op2M, Pd.leD, Pd.ltD, Pd.gtD, Pd.geD, Pd.intD, Pd.retM, Pd.outOf, Pd.ownAt, Pd.bltM, Pd.vals, Pd.lenD, Pd.consM, Pd.callM, Pd.ownSlots, Pd.svsOf, Pd.svOf, Pd.setOwn, Pd.nxS, Pd.setM, isOwn_zero, isOwn_succ, isOwn_nil, isOD_zero, isOD_succ, isOD_nil, ownB_free, mrg_free, Pd.wipeE, mergeE_nil, mergeE_cons, Pd.fldM, Pd.fldOf, fl_rooms, fl_sizes, fl_zones, fl_far, fl_alive, fl_apart, Pd.siM, Pd.seqOf, Pd.asgS, Pd.setS, Pd.dropS, ix_eP hm, in_tupI, h1, h2, eO, ix_loads ht, ix_size hs, ix_room ht, add_int]
    · simp only [List.map_cons, List.map_nil] at es
      simp [Pd.runN, Pd.runF, Pd.seqS, Pd.ifS, Pd.retS, Pd.withE, Pd.andV, Pd.orV, Pd.boolM, Pd.notM, Pd.andM, Pd.orM, Pd.ifM, Pd.isiM, Pd.bindM, Pd.varM, Pd.liftO, Pd.isiD, Pd.tyOfD, Pd.asB, Pd.notV, Pd.chainM, Pd.op2M, Pd.leD, Pd.ltD, Pd.gtD, Pd.geD, Pd.intD, Pd.retM, Pd.outOf, Pd.ownAt, Pd.bltM, Pd.vals, Pd.lenD, Pd.consM, Pd.callM, Pd.ownSlots, Pd.svsOf, Pd.svOf, Pd.setOwn, Pd.nxS, Pd.setM, isOwn_zero, isOwn_succ, isOwn_nil, isOD_zero, isOD_succ, isOD_nil, ownB_free, mrg_free, Pd.wipeE, mergeE_nil, mergeE_cons, Pd.fldM, Pd.fldOf, fl_rooms, fl_sizes, fl_zones, fl_far, fl_alive, fl_apart, Pd.siM, Pd.seqOf, Pd.asgS, Pd.setS, Pd.dropS, ix_eP hm, in_tupI, h1, h2, eO, ix_loads ht, ix_size hs, ix_room ht, add_int, lstM, starM, ↓seq_tupI, datas_starI, datas, hl2, es, tuple_ints, r]
theorem neD_int' (i j : Int) : neD (.da (.int i)) (.da (.int j)) = some (.da (.bool (decide (i ≠ j)))) := by rw [neD_int]; simp
theorem v_dropped (A : Ads) (c : Cl) (hc : OkC c) (p : List (List Int)) (sh : Nat) (m : Int) (ms : List Int) (hp : p.length ≤ 10) (hm : p[sh]? = some ms) (h : ∀ m ∈ ms, inR c m) (hl : ms.length ≤ 50) :
    F__dropped A [.obj A.C (fl c), .da (eP p), .da (.int sh), .da (.int m)] = some (.ret (.da (eO eP (drR c p sh m))) []) := by
  have e1 : msOf p sh = ms := by unfold msOf; rw [hm]; rfl
  have r := v_replaced A c hc p sh (ms.filter fun x => decide (x ≠ m)) hp (fun m h' => h m (List.mem_filter.mp h').1) (by have := List.length_filter_le (fun x => decide (x ≠ m)) ms; omega)
  have w : c0__dropped A [some (.obj A.C (fl c)), some (.da (eP p)), some (.da (.int sh)), some (.da (.int m)), some (.da (tupI ms)), none] = some (.ok (.da (.list ((ms.filter fun x => decide (x ≠ m)).map .int))) [some (.obj A.C (fl c)), some (.da (eP p)), some (.da (.int sh)), some (.da (.int m)), some (.da (tupI ms)), none]) := by
    unfold c0__dropped
    rw [lcM_tl PyData.int (l := ms) (fun x => if decide (x ≠ m) = true then some (.int x) else none) (by rfl) (by unfold LIM; omega) (fun x hx => ?_), filterMap_ite]
    unfold stepV
    by_cases hx : x = m <;> simp [Pd.runN, Pd.runF, Pd.seqS, Pd.ifS, Pd.retS, Pd.withE, Pd.andV, Pd.orV, Pd.boolM, Pd.notM, Pd.andM, Pd.orM, Pd.ifM, Pd.isiM, Pd.bindM, Pd.varM, Pd.liftO, Pd.isiD, Pd.tyOfD, Pd.asB, Pd.notV, Pd.chainM, Pd.op2M, Pd.leD, Pd.ltD, Pd.gtD, Pd.geD, Pd.intD, Pd.retM, Pd.outOf, Pd.ownAt, Pd.bltM, Pd.vals, Pd.lenD, Pd.consM, Pd.callM, Pd.ownSlots, Pd.svsOf, Pd.svOf, Pd.setOwn, Pd.nxS, Pd.setM, isOwn_zero, isOwn_succ, isOwn_nil, isOD_zero, isOD_succ, isOD_nil, ownB_free, mrg_free, Pd.wipeE, mergeE_nil, mergeE_cons, Pd.fldM, Pd.fldOf, fl_rooms, fl_sizes, fl_zones, fl_far, fl_alive, fl_apart, Pd.siM, Pd.seqOf, Pd.asgS, Pd.setS, Pd.dropS, neD_int', hx]
  unfold F__dropped g__dropped drR
  rw [e1]
  by_cases h1 : m ∈ ms
  · simp only [ne_eq, decide_not] at w r
    simp [Pd.runN, Pd.runF, Pd.seqS, Pd.ifS, Pd.retS, Pd.withE, Pd.andV, Pd.orV, Pd.boolM, Pd.notM, Pd.andM, Pd.orM, Pd.ifM, Pd.isiM, Pd.bindM, Pd.varM, Pd.liftO, Pd.isiD, Pd.tyOfD, Pd.asB, Pd.notV, Pd.chainM, Pd.op2M, Pd.leD, Pd.ltD, Pd.gtD, Pd.geD, Pd.intD, Pd.retM, Pd.outOf, Pd.ownAt, Pd.bltM, Pd.vals, Pd.lenD, Pd.consM, Pd.callM, Pd.ownSlots, Pd.svsOf, Pd.svOf, Pd.setOwn, Pd.nxS, Pd.setM, isOwn_zero, isOwn_succ, isOwn_nil, isOD_zero, isOD_succ, isOD_nil, ownB_free, mrg_free, Pd.wipeE, mergeE_nil, mergeE_cons, Pd.fldM, Pd.fldOf, fl_rooms, fl_sizes, fl_zones, fl_far, fl_alive, fl_apart, Pd.siM, Pd.seqOf, Pd.asgS, Pd.setS, Pd.dropS, ix_eP hm, in_tupI, h1, w, tuple_ints, r]
  · simp [Pd.runN, Pd.runF, Pd.seqS, Pd.ifS, Pd.retS, Pd.withE, Pd.andV, Pd.orV, Pd.boolM, Pd.notM, Pd.andM, Pd.orM, Pd.ifM, Pd.isiM, Pd.bindM, Pd.varM, Pd.liftO, Pd.isiD, Pd.tyOfD, Pd.asB, Pd.notV, Pd.chainM, Pd.op2M, Pd.leD, Pd.ltD, Pd.gtD, Pd.geD, Pd.intD, Pd.retM, Pd.outOf, Pd.ownAt, Pd.bltM, Pd.vals, Pd.lenD, Pd.consM, Pd.callM, Pd.ownSlots, Pd.svsOf, Pd.svOf, Pd.setOwn, Pd.nxS, Pd.setM, isOwn_zero, isOwn_succ, isOwn_nil, isOD_zero, isOD_succ, isOD_nil, ownB_free, mrg_free, Pd.wipeE, mergeE_nil, mergeE_cons, Pd.fldM, Pd.fldOf, fl_rooms, fl_sizes, fl_zones, fl_far, fl_alive, fl_apart, Pd.siM, Pd.seqOf, Pd.asgS, Pd.setS, Pd.dropS, ix_eP hm, in_tupI, h1, eO]
end K01
end
section
set_option Elab.async false
set_option linter.all false
set_option maxRecDepth 100000
set_option maxHeartbeats 1000000
namespace K01
open PySem Pd
/-! ### comprehensions of several clauses -/
theorem lvGo_tl {α : Type} (enc : α → PyData) {vs : List Nat} {g : SV → Mo Unit} {inner : Acc} {env : PEnv} (f : α → List PyData) (hv : vs.all (fun i => !Pd.isOD env i) = true) :
    ∀ {l : List α} {acc : List PyData}, acc.length + (l.flatMap f).length ≤ LIM → (∀ x ∈ l, ∃ e1, g (.da (enc x)) (wipeE env vs) = some (.ok () e1) ∧ ∀ acc : List PyData, acc.length + (f x).length ≤ LIM → ∃ e2, inner acc e1 = some (acc ++ f x, e2) ∧ mergeE env e2 = env) →
      lvGo vs g inner (l.map enc) acc env = some (acc ++ l.flatMap f, env)
  | [], acc, _, _ => by simp [lvGo]
  | x :: l, acc, hb, h => by
    obtain ⟨e1, h1, h2⟩ := h x (.head _)
    rw [List.flatMap_cons, List.length_append] at hb
    obtain ⟨e2, h3, h4⟩ := h2 acc (by omega)
    have ih := lvGo_tl enc f hv (l := l) (acc := acc ++ f x) (by rw [List.length_append]; omega) fun y hy => h y (.tail _ hy)
    rw [List.map_cons]
    unfold lvGo
    rw [if_pos hv, h1]
    dsimp only
    rw [h3]
    dsimp only [Option.bind_some]
    rw [h4, ih, List.flatMap_cons, List.append_assoc]
theorem leafIA_yes {tt : Mo Bool} {te : Mo SV} {acc : List PyData} {e1 e2 e3 : PEnv} {y : PyData} (h1 : tt e1 = some (.ok true e2)) (h2 : te e2 = some (.ok (.da y) e3)) (h : acc.length + 1 ≤ LIM) : leafIA tt te acc e1 = some (acc ++ [y], e3) := by
  unfold leafIA leafA
  rw [h1]
  dsimp only
  rw [if_pos (by omega), h2]
theorem leafIA_no {tt : Mo Bool} {te : Mo SV} {acc : List PyData} {e1 e2 : PEnv} (h1 : tt e1 = some (.ok false e2)) : leafIA tt te acc e1 = some (acc, e2) := by
  unfold leafIA
  rw [h1]
theorem lc2iM_tl {α : Type} (enc : α → PyData) {vs vs1 : List Nat} {fi : Mo (List PyData)} {g : SV → Mo Unit} {fi1 : Mo (List PyData)} {g1 : SV → Mo Unit} {tt : Mo Bool} {te : Mo SV} {env : PEnv} {l : List α} (f : α → List PyData) (hfi : fi env = some (.ok (l.map enc) env)) (hv : vs.all (fun i => !Pd.isOD env i) = true)
    (hb : (l.flatMap f).length ≤ LIM) (h : ∀ x ∈ l, ∃ e1, g (.da (enc x)) (wipeE env vs) = some (.ok () e1) ∧ ∀ acc : List PyData, acc.length + (f x).length ≤ LIM → ∃ e2, lvA vs1 fi1 g1 (leafIA tt te) acc e1 = some (acc ++ f x, e2) ∧ mergeE env e2 = env) :
    lc2iM vs vs1 fi g fi1 g1 tt te env = some (.ok (.da (.list (l.flatMap f))) env) := by
  unfold lc2iM Pd.bindM
  rw [hfi]
  dsimp only
  unfold topA
  rw [lvGo_tl enc f hv (by simpa using hb) h]
  simp
theorem flat_len {α β : Type} (f : α → List β) (k : Nat) : ∀ l : List α, (∀ x ∈ l, (f x).length ≤ k) → (l.flatMap f).length ≤ l.length * k
  | [], _ => by simp
  | x :: l, h => by
    have := flat_len f k l fun y hy => h y (.tail _ hy)
    have := h x (.head _)
    rw [List.flatMap_cons, List.length_append, List.length_cons, Nat.succ_mul]
    omega
/-! ### all steps -/
abbrev P' := List (List Int)
def eM (r : Stp × P') : PyData := .tuple [eS r.1, eP r.2]
def en (p : P') : List (Nat × List Int) := p.mapIdx fun i ms => (i, ms)
theorem en_len (p : P') : (en p).length = p.length := by simp [en]
theorem en_get {p : P'} {q : Nat × List Int} (h : q ∈ en p) : p[q.1]? = some q.2 := by
  unfold en at h
  obtain ⟨i, hi, rfl⟩ := List.mem_mapIdx.mp h
  simp [hi]
theorem enumL_en (p : P') : enumL (p.map tupI) = (en p).map fun q => PyData.tuple [.int q.1, tupI q.2] := by
  unfold enumL en
  apply List.ext_getElem?
  intro i
  simp only [List.getElem?_mapIdx, List.getElem?_map, Option.map_map]
  rfl
def cop1 (c : Cl) (p : P') (sh : Nat) (src t : Int) : List (Stp × P') := ((cpR c p sh t).map fun q => (Stp.cp sh src t, q)).toList
def cop (c : Cl) (p : P') (sh : Nat) (ms : List Int) : List (Stp × P') := ms.flatMap fun src => (ns c.rooms.length).flatMap fun t => cop1 c p sh src t
def drp (c : Cl) (p : P') (sh : Nat) (ms : List Int) : List (Stp × P') := ms.flatMap fun m => ((drR c p sh m).map fun q => (Stp.dp sh m, q)).toList
def mvs (c : Cl) (p : P') : List (Stp × P') := ((en p).flatMap fun q => cop c p q.1 q.2) ++ (en p).flatMap fun q => drp c p q.1 q.2
theorem toList_len {α : Type} (o : Option α) : o.toList.length ≤ 1 := by cases o <;> simp
theorem cop_len (c : Cl) (p : P') (sh : Nat) (ms : List Int) : (cop c p sh ms).length ≤ ms.length * c.rooms.length := by
  refine flat_len _ _ ms fun src _ => ?_
  have := flat_len (fun t => cop1 c p sh src t) 1 (ns c.rooms.length) fun t _ => toList_len _
  rwa [ns_len, Nat.mul_one] at this
theorem drp_len (c : Cl) (p : P') (sh : Nat) (ms : List Int) : (drp c p sh ms).length ≤ ms.length := by
  have := flat_len (fun m => ((drR c p sh m).map fun q => (Stp.dp sh m, q)).toList) 1 ms fun t _ => toList_len _
  rwa [Nat.mul_one] at this
theorem Wild.m3 {c : Cl} {p : P'} (h : Wild c p) {ms : List Int} (hm : ms ∈ p) (hc : OkC c) : ms.length ≤ 3 := by
  have := asc_len (h.asc ms hm) (by omega)
  have := hc.rl
  omega
theorem en_mem {p : P'} {q : Nat × List Int} (h : q ∈ en p) : q.2 ∈ p := List.mem_of_getElem? (en_get h)
theorem en_lt {p : P'} {q : Nat × List Int} (h : q ∈ en p) : q.1 < p.length := by
  have := en_get h
  exact (List.getElem?_eq_some_iff.mp this).1
theorem Wild.inR {c : Cl} {p : P'} (h : Wild c p) {ms : List Int} (hm : ms ∈ p) : ∀ m ∈ ms, inR c m := (asc_nd (h.asc ms hm)).1
theorem ns_inR {c : Cl} {t : Int} (h : t ∈ ns c.rooms.length) : inR c t := mem_ns.mp h
theorem src_ns {c : Cl} (hc : OkC c) (A : Ads) (xs : PEnv) : rg1M (consM (bltM lenD (consM (fldM A.C "_rooms" (varM 0)) (retM []))) (retM [])) (some (SV.obj A.C (fl c)) :: xs) = some (.ok ((ns c.rooms.length).map .int) (some (SV.obj A.C (fl c)) :: xs)) := by
  have := hc.rl
  have h1 : (-1000000 : Int) ≤ c.rooms.length := by omega
  have h2 : (c.rooms.length : Int) ≤ 1000000 := by omega
  simp [Pd.runN, Pd.runF, Pd.seqS, Pd.ifS, Pd.retS, Pd.withE, Pd.andV, Pd.orV, Pd.boolM, Pd.notM, Pd.andM, Pd.orM, Pd.ifM, Pd.isiM, Pd.bindM, Pd.varM, Pd.liftO, Pd.isiD, Pd.tyOfD, Pd.asB, Pd.notV, Pd.chainM, Pd.op2M, Pd.leD, Pd.ltD, Pd.gtD, Pd.geD, Pd.intD, Pd.retM, Pd.outOf, Pd.ownAt, Pd.bltM, Pd.vals, Pd.lenD, Pd.consM, Pd.callM, Pd.ownSlots, Pd.svsOf, Pd.svOf, Pd.setOwn, Pd.nxS, Pd.setM, isOwn_zero, isOwn_succ, isOwn_nil, isOD_zero, isOD_succ, isOD_nil, ownB_free, mrg_free, Pd.wipeE, mergeE_nil, mergeE_cons, Pd.fldM, Pd.fldOf, fl_rooms, fl_sizes, fl_zones, fl_far, fl_alive, fl_apart, Pd.siM, Pd.seqOf, Pd.asgS, Pd.setS, Pd.dropS, rg1M, rangeD1, h1, h2, rangeL_ns]
theorem fm_flat {α β γ : Type} (f : α → Option β) (enc : β → γ) (l : List α) : l.filterMap (fun a => (f a).map enc) = (l.flatMap fun a => (f a).toList).map enc := by
  induction l with
  | nil => rfl
  | cons a l ih => cases h : f a <;> simp [h, ih]
theorem isNone_eP (p : P') : isNone (.da (eP p)) = false := rfl
theorem v_moves (A : Ads) (c : Cl) (hc : OkC c) (p : P') (h : Wild c p) : F_moves A [.obj A.C (fl c), .da (eP p)] = some (.ret (.da (.list ((mvs c p).map eM))) []) := by
  have hpl : p.length ≤ 3 := by rw [h.len]; exact hc.sl.2
  have hrl := hc.rl.2
  have hv : F_held A [.obj A.C (fl c), .da (eP p)] = some (.ret (.da (.list ((loads c p).map .int))) []) := v_held A c p h.ok (by omega)
  generalize hLo : SV.da (.list ((loads c p).map .int)) = Lo at *
  -- copies
  have loop1 : ∃ z4 z5 z6, free z4 = true ∧ free z5 = true ∧ free z6 = true ∧ c2_moves A [some (.obj A.C (fl c)), some (.da (eP p)), some Lo, some (.own []), none, none, none, none, none, none, none, none] =
      some (.nx [some (.obj A.C (fl c)), some (.da (eP p)), some Lo, some (.own (((en p).flatMap fun q => cop c p q.1 q.2).map eM)), z4, z5, z6, none, none, none, none, none]) := by
    obtain ⟨e, h1, z4, z5, z6, n4, n5, n6, rfl⟩ := forS_inv (fun q : Nat × List Int => PyData.tuple [.int q.1, tupI q.2]) (fi := eiM (consM (varM 1) (retM []))) (g := tupG 2 (consG (setM 4) (consG (setM 5) nilG))) (body := seqS (setS 6 (c0_moves A)) (extS 3 (c1_moves A)))
      (l := en p) (env := [some (.obj A.C (fl c)), some (.da (eP p)), some Lo, some (.own []), none, none, none, none, none, none, none, none])
      (fun done e => ∃ z4 z5 z6, free z4 = true ∧ free z5 = true ∧ free z6 = true ∧ e = [some (.obj A.C (fl c)), some (.da (eP p)), some Lo, some (.own ((done.flatMap fun q => cop c p q.1 q.2).map eM)), z4, z5, z6, none, none, none, none, none])
      (by have := enumL_en p; simp [Pd.runN, Pd.runF, Pd.seqS, Pd.ifS, Pd.retS, Pd.withE, Pd.andV, Pd.orV, Pd.boolM, Pd.notM, Pd.andM, Pd.orM, Pd.ifM, Pd.isiM, Pd.bindM, Pd.varM, Pd.liftO, Pd.isiD, Pd.tyOfD, Pd.asB, Pd.notV, Pd.chainM, Pd.op2M, Pd.leD, Pd.ltD, Pd.gtD, Pd.geD, Pd.intD, Pd.retM, Pd.outOf, Pd.ownAt, Pd.bltM, Pd.vals, Pd.lenD, Pd.consM, Pd.callM, Pd.ownSlots, Pd.svsOf, Pd.svOf, Pd.setOwn, Pd.nxS, Pd.setM, isOwn_zero, isOwn_succ, isOwn_nil, isOD_zero, isOD_succ, isOD_nil, ownB_free, mrg_free, Pd.wipeE, mergeE_nil, mergeE_cons, Pd.fldM, Pd.fldOf, fl_rooms, fl_sizes, fl_zones, fl_far, fl_alive, fl_apart, Pd.siM, Pd.seqOf, Pd.asgS, Pd.setS, Pd.dropS, eiM, ↓seq_eP, this]) ⟨none, none, none, rfl, rfl, rfl, rfl⟩ (fun done q rest env hd hp => by
        obtain ⟨z4, z5, z6, n4, n5, n6, rfl⟩ := hp
        obtain ⟨sh, ms⟩ := q
        have hq : (sh, ms) ∈ en p := by rw [← hd]; simp
        have hmem : ms ∈ p := en_mem hq
        have hget : p[sh]? = some ms := en_get hq
        have hlt : sh < p.length := en_lt hq
        have hm3 : ms.length ≤ 3 := h.m3 hmem hc
        have hdl : done.length ≤ 3 := by
          have h := congrArg List.length hd
          rw [en_len, List.length_append, List.length_cons] at h
          omega
        have hdb : (done.flatMap fun q => cop c p q.1 q.2).length ≤ 27 := by
          have := flat_len (fun q : Nat × List Int => cop c p q.1 q.2) 9 done fun x hx => by
            have h1 := cop_len c p x.1 x.2
            have h2 := h.m3 (en_mem (q := x) (by rw [← hd]; exact List.mem_append_left _ hx)) hc
            have := Nat.mul_le_mul h2 hrl
            omega
          omega
        have hcb : (cop c p sh ms).length ≤ 9 := by
          have h1 := cop_len c p sh ms
          have := Nat.mul_le_mul hm3 hrl
          omega
        generalize hD : (done.flatMap fun q => cop c p q.1 q.2) = D at *
        have w0 : ∀ ow : List PyData, c0_moves A [some (.obj A.C (fl c)), some (.da (eP p)), some Lo, some (.own ow), some (.da (.int sh)), some (.da (tupI ms)), z6, none, none, none, none, none] =
            some (.ok (.da (.list ((ns c.rooms.length).map fun t => PyData.tuple [.int t, eO eP (cpR c p sh t)]))) [some (.obj A.C (fl c)), some (.da (eP p)), some Lo, some (.own ow), some (.da (.int sh)), some (.da (tupI ms)), z6, none, none, none, none, none]) := fun ow => by
          unfold c0_moves
          rw [lcM_tl PyData.int (l := ns c.rooms.length) (fun t => some (PyData.tuple [.int t, eO eP (cpR c p sh t)])) (src_ns hc A _) (by rw [ns_len]; unfold LIM; omega) (fun t ht => ?_), filterMap_some]
          have hcp := v_copied A c hc p sh t ms (by omega) (by rw [← h.len]; exact hlt) hget (h.inR hmem) (by omega) (ns_inR ht)
          rw [hLo] at hcp
          subst hLo
          unfold stepV
          simp [Pd.runN, Pd.runF, Pd.seqS, Pd.ifS, Pd.retS, Pd.withE, Pd.andV, Pd.orV, Pd.boolM, Pd.notM, Pd.andM, Pd.orM, Pd.ifM, Pd.isiM, Pd.bindM, Pd.varM, Pd.liftO, Pd.isiD, Pd.tyOfD, Pd.asB, Pd.notV, Pd.chainM, Pd.op2M, Pd.leD, Pd.ltD, Pd.gtD, Pd.geD, Pd.intD, Pd.retM, Pd.outOf, Pd.ownAt, Pd.bltM, Pd.vals, Pd.lenD, Pd.consM, Pd.callM, Pd.ownSlots, Pd.svsOf, Pd.svOf, Pd.setOwn, Pd.nxS, Pd.setM, isOwn_zero, isOwn_succ, isOwn_nil, isOD_zero, isOD_succ, isOD_nil, ownB_free, mrg_free, Pd.wipeE, mergeE_nil, mergeE_cons, Pd.fldM, Pd.fldOf, fl_rooms, fl_sizes, fl_zones, fl_far, fl_alive, fl_apart, Pd.siM, Pd.seqOf, Pd.asgS, Pd.setS, Pd.dropS, hcp, tupM, datas, n6]
        have w1 : ∀ (ow : List PyData) (x6 : SV), x6 = .da (.list ((ns c.rooms.length).map fun t => PyData.tuple [.int t, eO eP (cpR c p sh t)])) → c1_moves A [some (.obj A.C (fl c)), some (.da (eP p)), some Lo, some (.own ow), some (.da (.int sh)), some (.da (tupI ms)), some x6, none, none, none, none, none] =
            some (.ok (.da (.list ((cop c p sh ms).map eM))) [some (.obj A.C (fl c)), some (.da (eP p)), some Lo, some (.own ow), some (.da (.int sh)), some (.da (tupI ms)), some x6, none, none, none, none, none]) := fun ow x6 h6 => by
          have hf : (ms.flatMap fun src => (ns c.rooms.length).flatMap fun t => (cop1 c p sh src t).map eM) = (cop c p sh ms).map eM := by
            unfold cop
            rw [List.map_flatMap]
            congr 1
            funext src
            rw [List.map_flatMap]
          rw [← hf]
          unfold c1_moves
          refine lc2iM_tl PyData.int (l := ms) _ (by subst h6; subst hLo; simp [Pd.runN, Pd.runF, Pd.seqS, Pd.ifS, Pd.retS, Pd.withE, Pd.andV, Pd.orV, Pd.boolM, Pd.notM, Pd.andM, Pd.orM, Pd.ifM, Pd.isiM, Pd.bindM, Pd.varM, Pd.liftO, Pd.isiD, Pd.tyOfD, Pd.asB, Pd.notV, Pd.chainM, Pd.op2M, Pd.leD, Pd.ltD, Pd.gtD, Pd.geD, Pd.intD, Pd.retM, Pd.outOf, Pd.ownAt, Pd.bltM, Pd.vals, Pd.lenD, Pd.consM, Pd.callM, Pd.ownSlots, Pd.svsOf, Pd.svOf, Pd.setOwn, Pd.nxS, Pd.setM, isOwn_zero, isOwn_succ, isOwn_nil, isOD_zero, isOD_succ, isOD_nil, ownB_free, mrg_free, Pd.wipeE, mergeE_nil, mergeE_cons, Pd.fldM, Pd.fldOf, fl_rooms, fl_sizes, fl_zones, fl_far, fl_alive, fl_apart, Pd.siM, Pd.seqOf, Pd.asgS, Pd.setS, Pd.dropS, ↓seq_tupI]) (by subst h6; subst hLo; simp [isOD_zero, isOD_succ]) (by rw [hf, List.length_map]; unfold LIM; omega) (fun src hsrc => ?_)
          refine ⟨[some (.obj A.C (fl c)), some (.da (eP p)), some Lo, some (.own ow), some (.da (.int sh)), some (.da (tupI ms)), some x6, none, some (.da (.int src)), none, none, none], by subst h6; subst hLo; simp [Pd.runN, Pd.runF, Pd.seqS, Pd.ifS, Pd.retS, Pd.withE, Pd.andV, Pd.orV, Pd.boolM, Pd.notM, Pd.andM, Pd.orM, Pd.ifM, Pd.isiM, Pd.bindM, Pd.varM, Pd.liftO, Pd.isiD, Pd.tyOfD, Pd.asB, Pd.notV, Pd.chainM, Pd.op2M, Pd.leD, Pd.ltD, Pd.gtD, Pd.geD, Pd.intD, Pd.retM, Pd.outOf, Pd.ownAt, Pd.bltM, Pd.vals, Pd.lenD, Pd.consM, Pd.callM, Pd.ownSlots, Pd.svsOf, Pd.svOf, Pd.setOwn, Pd.nxS, Pd.setM, isOwn_zero, isOwn_succ, isOwn_nil, isOD_zero, isOD_succ, isOD_nil, ownB_free, mrg_free, Pd.wipeE, mergeE_nil, mergeE_cons, Pd.fldM, Pd.fldOf, fl_rooms, fl_sizes, fl_zones, fl_far, fl_alive, fl_apart, Pd.siM, Pd.seqOf, Pd.asgS, Pd.setS, Pd.dropS], fun acc hacc => ⟨[some (.obj A.C (fl c)), some (.da (eP p)), some Lo, some (.own ow), some (.da (.int sh)), some (.da (tupI ms)), some x6, none, some (.da (.int src)), none, none, none], ?_, by subst h6; subst hLo; simp [mergeE_cons, mergeE_nil]⟩⟩
          unfold lvA
          have hsi : siM (varM 6) [some (.obj A.C (fl c)), some (.da (eP p)), some Lo, some (.own ow), some (.da (.int sh)), some (.da (tupI ms)), some x6, none, some (.da (.int src)), none, none, none] = some (.ok ((ns c.rooms.length).map fun t => PyData.tuple [.int t, eO eP (cpR c p sh t)]) [some (.obj A.C (fl c)), some (.da (eP p)), some Lo, some (.own ow), some (.da (.int sh)), some (.da (tupI ms)), some x6, none, some (.da (.int src)), none, none, none]) := by subst h6; rfl
          rw [hsi]
          dsimp only
          refine lvGo_tl (fun t => PyData.tuple [.int t, eO eP (cpR c p sh t)]) (fun t => (cop1 c p sh src t).map eM) (by subst h6; subst hLo; simp [isOD_zero, isOD_succ]) hacc (fun t ht => ?_)
          refine ⟨[some (.obj A.C (fl c)), some (.da (eP p)), some Lo, some (.own ow), some (.da (.int sh)), some (.da (tupI ms)), some x6, some (.da (.int t)), some (.da (.int src)), some (.da (eO eP (cpR c p sh t))), none, none], by subst h6; subst hLo; simp [Pd.runN, Pd.runF, Pd.seqS, Pd.ifS, Pd.retS, Pd.withE, Pd.andV, Pd.orV, Pd.boolM, Pd.notM, Pd.andM, Pd.orM, Pd.ifM, Pd.isiM, Pd.bindM, Pd.varM, Pd.liftO, Pd.isiD, Pd.tyOfD, Pd.asB, Pd.notV, Pd.chainM, Pd.op2M, Pd.leD, Pd.ltD, Pd.gtD, Pd.geD, Pd.intD, Pd.retM, Pd.outOf, Pd.ownAt, Pd.bltM, Pd.vals, Pd.lenD, Pd.consM, Pd.callM, Pd.ownSlots, Pd.svsOf, Pd.svOf, Pd.setOwn, Pd.nxS, Pd.setM, isOwn_zero, isOwn_succ, isOwn_nil, isOD_zero, isOD_succ, isOD_nil, ownB_free, mrg_free, Pd.wipeE, mergeE_nil, mergeE_cons, Pd.fldM, Pd.fldOf, fl_rooms, fl_sizes, fl_zones, fl_far, fl_alive, fl_apart, Pd.siM, Pd.seqOf, Pd.asgS, Pd.setS, Pd.dropS, tupG, consG, nilG], fun acc hacc => ⟨[some (.obj A.C (fl c)), some (.da (eP p)), some Lo, some (.own ow), some (.da (.int sh)), some (.da (tupI ms)), some x6, some (.da (.int t)), some (.da (.int src)), some (.da (eO eP (cpR c p sh t))), none, none], ?_, by subst h6; subst hLo; simp [mergeE_cons, mergeE_nil]⟩⟩
          unfold cop1 at hacc ⊢
          cases hcr : cpR c p sh t with
          | none =>
            have := leafIA_no (acc := acc) (tt := boolM (op2M isNotD (varM 9) (retM (.da .none)))) (te := tupM (consM (tupM (consM (retM (.da (.str "copy"))) (consM (varM 4) (consM (varM 8) (consM (varM 7) (retM [])))))) (consM (varM 9) (retM [])))) (e1 := [some (.obj A.C (fl c)), some (.da (eP p)), some Lo, some (.own ow), some (.da (.int sh)), some (.da (tupI ms)), some x6, some (.da (.int t)), some (.da (.int src)), some (.da .none), none, none]) (e2 := [some (.obj A.C (fl c)), some (.da (eP p)), some Lo, some (.own ow), some (.da (.int sh)), some (.da (tupI ms)), some x6, some (.da (.int t)), some (.da (.int src)), some (.da .none), none, none]) (by subst h6; subst hLo; simp [Pd.runN, Pd.runF, Pd.seqS, Pd.ifS, Pd.retS, Pd.withE, Pd.andV, Pd.orV, Pd.boolM, Pd.notM, Pd.andM, Pd.orM, Pd.ifM, Pd.isiM, Pd.bindM, Pd.varM, Pd.liftO, Pd.isiD, Pd.tyOfD, Pd.asB, Pd.notV, Pd.chainM, Pd.op2M, Pd.leD, Pd.ltD, Pd.gtD, Pd.geD, Pd.intD, Pd.retM, Pd.outOf, Pd.ownAt, Pd.bltM, Pd.vals, Pd.lenD, Pd.consM, Pd.callM, Pd.ownSlots, Pd.svsOf, Pd.svOf, Pd.setOwn, Pd.nxS, Pd.setM, isOwn_zero, isOwn_succ, isOwn_nil, isOD_zero, isOD_succ, isOD_nil, ownB_free, mrg_free, Pd.wipeE, mergeE_nil, mergeE_cons, Pd.fldM, Pd.fldOf, fl_rooms, fl_sizes, fl_zones, fl_far, fl_alive, fl_apart, Pd.siM, Pd.seqOf, Pd.asgS, Pd.setS, Pd.dropS, isNotD, isNone])
            simpa [eO] using this
          | some q =>
            rw [hcr] at hacc
            have := leafIA_yes (acc := acc) (tt := boolM (op2M isNotD (varM 9) (retM (.da .none)))) (te := tupM (consM (tupM (consM (retM (.da (.str "copy"))) (consM (varM 4) (consM (varM 8) (consM (varM 7) (retM [])))))) (consM (varM 9) (retM [])))) (e1 := [some (.obj A.C (fl c)), some (.da (eP p)), some Lo, some (.own ow), some (.da (.int sh)), some (.da (tupI ms)), some x6, some (.da (.int t)), some (.da (.int src)), some (.da (eP q)), none, none]) (e2 := [some (.obj A.C (fl c)), some (.da (eP p)), some Lo, some (.own ow), some (.da (.int sh)), some (.da (tupI ms)), some x6, some (.da (.int t)), some (.da (.int src)), some (.da (eP q)), none, none]) (e3 := [some (.obj A.C (fl c)), some (.da (eP p)), some Lo, some (.own ow), some (.da (.int sh)), some (.da (tupI ms)), some x6, some (.da (.int t)), some (.da (.int src)), some (.da (eP q)), none, none]) (y := eM (Stp.cp sh src t, q))
              (by subst h6; subst hLo; simp [Pd.runN, Pd.runF, Pd.seqS, Pd.ifS, Pd.retS, Pd.withE, Pd.andV, Pd.orV, Pd.boolM, Pd.notM, Pd.andM, Pd.orM, Pd.ifM, Pd.isiM, Pd.bindM, Pd.varM, Pd.liftO, Pd.isiD, Pd.tyOfD, Pd.asB, Pd.notV, Pd.chainM, Pd.op2M, Pd.leD, Pd.ltD, Pd.gtD, Pd.geD, Pd.intD, Pd.retM, Pd.outOf, Pd.ownAt, Pd.bltM, Pd.vals, Pd.lenD, Pd.consM, Pd.callM, Pd.ownSlots, Pd.svsOf, Pd.svOf, Pd.setOwn, Pd.nxS, Pd.setM, isOwn_zero, isOwn_succ, isOwn_nil, isOD_zero, isOD_succ, isOD_nil, ownB_free, mrg_free, Pd.wipeE, mergeE_nil, mergeE_cons, Pd.fldM, Pd.fldOf, fl_rooms, fl_sizes, fl_zones, fl_far, fl_alive, fl_apart, Pd.siM, Pd.seqOf, Pd.asgS, Pd.setS, Pd.dropS, isNotD, ↓isNone_eP, isNone]) (by subst h6; subst hLo; simp [Pd.runN, Pd.runF, Pd.seqS, Pd.ifS, Pd.retS, Pd.withE, Pd.andV, Pd.orV, Pd.boolM, Pd.notM, Pd.andM, Pd.orM, Pd.ifM, Pd.isiM, Pd.bindM, Pd.varM, Pd.liftO, Pd.isiD, Pd.tyOfD, Pd.asB, Pd.notV, Pd.chainM, Pd.op2M, Pd.leD, Pd.ltD, Pd.gtD, Pd.geD, Pd.intD, Pd.retM, Pd.outOf, Pd.ownAt, Pd.bltM, Pd.vals, Pd.lenD, Pd.consM, Pd.callM, Pd.ownSlots, Pd.svsOf, Pd.svOf, Pd.setOwn, Pd.nxS, Pd.setM, isOwn_zero, isOwn_succ, isOwn_nil, isOD_zero, isOD_succ, isOD_nil, ownB_free, mrg_free, Pd.wipeE, mergeE_nil, mergeE_cons, Pd.fldM, Pd.fldOf, fl_rooms, fl_sizes, fl_zones, fl_far, fl_alive, fl_apart, Pd.siM, Pd.seqOf, Pd.asgS, Pd.setS, Pd.dropS, tupM, datas, eM, eS]) (by simpa using hacc)
            simpa [eO] using this
        have hlim : D.length + (cop c p sh ms).length < LIM := by unfold LIM; omega
        refine ⟨[some (.obj A.C (fl c)), some (.da (eP p)), some Lo, some (.own (D.map eM)), some (.da (.int sh)), some (.da (tupI ms)), z6, none, none, none, none, none], _, by subst hLo; simp [Pd.runN, Pd.runF, Pd.seqS, Pd.ifS, Pd.retS, Pd.withE, Pd.andV, Pd.orV, Pd.boolM, Pd.notM, Pd.andM, Pd.orM, Pd.ifM, Pd.isiM, Pd.bindM, Pd.varM, Pd.liftO, Pd.isiD, Pd.tyOfD, Pd.asB, Pd.notV, Pd.chainM, Pd.op2M, Pd.leD, Pd.ltD, Pd.gtD, Pd.geD, Pd.intD, Pd.retM, Pd.outOf, Pd.ownAt, Pd.bltM, Pd.vals, Pd.lenD, Pd.consM, Pd.callM, Pd.ownSlots, Pd.svsOf, Pd.svOf, Pd.setOwn, Pd.nxS, Pd.setM, isOwn_zero, isOwn_succ, isOwn_nil, isOD_zero, isOD_succ, isOD_nil, ownB_free, mrg_free, Pd.wipeE, mergeE_nil, mergeE_cons, Pd.fldM, Pd.fldOf, fl_rooms, fl_sizes, fl_zones, fl_far, fl_alive, fl_apart, Pd.siM, Pd.seqOf, Pd.asgS, Pd.setS, Pd.dropS, tupG, consG, nilG, n4, n5], .inl (by have w1' := fun ow => w1 ow _ rfl; subst hLo; simp [Pd.runN, Pd.runF, Pd.seqS, Pd.ifS, Pd.retS, Pd.withE, Pd.andV, Pd.orV, Pd.boolM, Pd.notM, Pd.andM, Pd.orM, Pd.ifM, Pd.isiM, Pd.bindM, Pd.varM, Pd.liftO, Pd.isiD, Pd.tyOfD, Pd.asB, Pd.notV, Pd.chainM, Pd.op2M, Pd.leD, Pd.ltD, Pd.gtD, Pd.geD, Pd.intD, Pd.retM, Pd.outOf, Pd.ownAt, Pd.bltM, Pd.vals, Pd.lenD, Pd.consM, Pd.callM, Pd.ownSlots, Pd.svsOf, Pd.svOf, Pd.setOwn, Pd.nxS, Pd.setM, isOwn_zero, isOwn_succ, isOwn_nil, isOD_zero, isOD_succ, isOD_nil, ownB_free, mrg_free, Pd.wipeE, mergeE_nil, mergeE_cons, Pd.fldM, Pd.fldOf, fl_rooms, fl_sizes, fl_zones, fl_far, fl_alive, fl_apart, Pd.siM, Pd.seqOf, Pd.asgS, Pd.setS, Pd.dropS, w0, w1', n6, extS, hlim]; rfl), some (.da (.int sh)), some (.da (tupI ms)), some (.da (.list ((ns c.rooms.length).map fun t => PyData.tuple [.int t, eO eP (cpR c p sh t)]))), rfl, rfl, rfl, ?_⟩
        simp [hD, hLo])
    exact ⟨z4, z5, z6, n4, n5, n6, h1⟩
  obtain ⟨a4, a5, a6, m4, m5, m6, hloop1⟩ := loop1
  generalize hC : ((en p).flatMap fun q => cop c p q.1 q.2) = C at *
  have hCl : C.length ≤ 27 := by
    rw [← hC]
    have := flat_len (fun q : Nat × List Int => cop c p q.1 q.2) 9 (en p) fun x hx => by
      have h1 := cop_len c p x.1 x.2
      have h2 := h.m3 (en_mem hx) hc
      have := Nat.mul_le_mul h2 hrl
      omega
    rw [en_len] at this
    omega
  have loop2 : ∃ z4 z5 z10, free z4 = true ∧ free z5 = true ∧ free z10 = true ∧ c5_moves A [some (.obj A.C (fl c)), some (.da (eP p)), some Lo, some (.own (C.map eM)), a4, a5, a6, none, none, none, none, none] =
      some (.nx [some (.obj A.C (fl c)), some (.da (eP p)), some Lo, some (.own ((C ++ (en p).flatMap fun q => drp c p q.1 q.2).map eM)), z4, z5, a6, none, none, none, z10, none]) := by
    obtain ⟨e, h1, z4, z5, z10, n4, n5, n10, rfl⟩ := forS_inv (fun q : Nat × List Int => PyData.tuple [.int q.1, tupI q.2]) (fi := eiM (consM (varM 1) (retM []))) (g := tupG 2 (consG (setM 4) (consG (setM 5) nilG))) (body := seqS (setS 10 (c3_moves A)) (extS 3 (c4_moves A)))
      (l := en p) (env := [some (.obj A.C (fl c)), some (.da (eP p)), some Lo, some (.own (C.map eM)), a4, a5, a6, none, none, none, none, none])
      (fun done e => ∃ z4 z5 z10, free z4 = true ∧ free z5 = true ∧ free z10 = true ∧ e = [some (.obj A.C (fl c)), some (.da (eP p)), some Lo, some (.own ((C ++ done.flatMap fun q => drp c p q.1 q.2).map eM)), z4, z5, a6, none, none, none, z10, none])
      (by have := enumL_en p; simp [Pd.runN, Pd.runF, Pd.seqS, Pd.ifS, Pd.retS, Pd.withE, Pd.andV, Pd.orV, Pd.boolM, Pd.notM, Pd.andM, Pd.orM, Pd.ifM, Pd.isiM, Pd.bindM, Pd.varM, Pd.liftO, Pd.isiD, Pd.tyOfD, Pd.asB, Pd.notV, Pd.chainM, Pd.op2M, Pd.leD, Pd.ltD, Pd.gtD, Pd.geD, Pd.intD, Pd.retM, Pd.outOf, Pd.ownAt, Pd.bltM, Pd.vals, Pd.lenD, Pd.consM, Pd.callM, Pd.ownSlots, Pd.svsOf, Pd.svOf, Pd.setOwn, Pd.nxS, Pd.setM, isOwn_zero, isOwn_succ, isOwn_nil, isOD_zero, isOD_succ, isOD_nil, ownB_free, mrg_free, Pd.wipeE, mergeE_nil, mergeE_cons, Pd.fldM, Pd.fldOf, fl_rooms, fl_sizes, fl_zones, fl_far, fl_alive, fl_apart, Pd.siM, Pd.seqOf, Pd.asgS, Pd.setS, Pd.dropS, eiM, ↓seq_eP, this]) ⟨a4, a5, none, m4, m5, rfl, by simp⟩ (fun done q rest env hd hp => by
        obtain ⟨z4, z5, z10, n4, n5, n10, rfl⟩ := hp
        obtain ⟨sh, ms⟩ := q
        have hq : (sh, ms) ∈ en p := by rw [← hd]; simp
        have hmem : ms ∈ p := en_mem hq
        have hget : p[sh]? = some ms := en_get hq
        have hm3 : ms.length ≤ 3 := h.m3 hmem hc
        have hdl : done.length ≤ 3 := by
          have h := congrArg List.length hd
          rw [en_len, List.length_append, List.length_cons] at h
          omega
        have hdb : (C ++ done.flatMap fun q => drp c p q.1 q.2).length ≤ 40 := by
          have := flat_len (fun q : Nat × List Int => drp c p q.1 q.2) 3 done fun x hx => by
            have h1 := drp_len c p x.1 x.2
            have h2 := h.m3 (en_mem (q := x) (by rw [← hd]; exact List.mem_append_left _ hx)) hc
            omega
          rw [List.length_append]
          omega
        have hdl2 := drp_len c p sh ms
        generalize hD : (C ++ done.flatMap fun q => drp c p q.1 q.2) = D at *
        have w0 : ∀ ow : List PyData, c3_moves A [some (.obj A.C (fl c)), some (.da (eP p)), some Lo, some (.own ow), some (.da (.int sh)), some (.da (tupI ms)), a6, none, none, none, z10, none] =
            some (.ok (.da (.list (ms.map fun m => PyData.tuple [.int m, eO eP (drR c p sh m)]))) [some (.obj A.C (fl c)), some (.da (eP p)), some Lo, some (.own ow), some (.da (.int sh)), some (.da (tupI ms)), a6, none, none, none, z10, none]) := fun ow => by
          unfold c3_moves
          rw [lcM_tl PyData.int (l := ms) (fun m => some (PyData.tuple [.int m, eO eP (drR c p sh m)])) (by subst hLo; simp [Pd.runN, Pd.runF, Pd.seqS, Pd.ifS, Pd.retS, Pd.withE, Pd.andV, Pd.orV, Pd.boolM, Pd.notM, Pd.andM, Pd.orM, Pd.ifM, Pd.isiM, Pd.bindM, Pd.varM, Pd.liftO, Pd.isiD, Pd.tyOfD, Pd.asB, Pd.notV, Pd.chainM, Pd.op2M, Pd.leD, Pd.ltD, Pd.gtD, Pd.geD, Pd.intD, Pd.retM, Pd.outOf, Pd.ownAt, Pd.bltM, Pd.vals, Pd.lenD, Pd.consM, Pd.callM, Pd.ownSlots, Pd.svsOf, Pd.svOf, Pd.setOwn, Pd.nxS, Pd.setM, isOwn_zero, isOwn_succ, isOwn_nil, isOD_zero, isOD_succ, isOD_nil, ownB_free, mrg_free, Pd.wipeE, mergeE_nil, mergeE_cons, Pd.fldM, Pd.fldOf, fl_rooms, fl_sizes, fl_zones, fl_far, fl_alive, fl_apart, Pd.siM, Pd.seqOf, Pd.asgS, Pd.setS, Pd.dropS, ↓seq_tupI]) (by unfold LIM; omega) (fun m hm => ?_), filterMap_some]
          have hcp := v_dropped A c hc p sh m ms (by omega) hget (h.inR hmem) (by omega)
          subst hLo
          unfold stepV
          simp [Pd.runN, Pd.runF, Pd.seqS, Pd.ifS, Pd.retS, Pd.withE, Pd.andV, Pd.orV, Pd.boolM, Pd.notM, Pd.andM, Pd.orM, Pd.ifM, Pd.isiM, Pd.bindM, Pd.varM, Pd.liftO, Pd.isiD, Pd.tyOfD, Pd.asB, Pd.notV, Pd.chainM, Pd.op2M, Pd.leD, Pd.ltD, Pd.gtD, Pd.geD, Pd.intD, Pd.retM, Pd.outOf, Pd.ownAt, Pd.bltM, Pd.vals, Pd.lenD, Pd.consM, Pd.callM, Pd.ownSlots, Pd.svsOf, Pd.svOf, Pd.setOwn, Pd.nxS, Pd.setM, isOwn_zero, isOwn_succ, isOwn_nil, isOD_zero, isOD_succ, isOD_nil, ownB_free, mrg_free, Pd.wipeE, mergeE_nil, mergeE_cons, Pd.fldM, Pd.fldOf, fl_rooms, fl_sizes, fl_zones, fl_far, fl_alive, fl_apart, Pd.siM, Pd.seqOf, Pd.asgS, Pd.setS, Pd.dropS, hcp, tupM, datas, m6, n10]
        have w1 : ∀ (ow : List PyData) (x10 : SV), x10 = .da (.list (ms.map fun m => PyData.tuple [.int m, eO eP (drR c p sh m)])) → c4_moves A [some (.obj A.C (fl c)), some (.da (eP p)), some Lo, some (.own ow), some (.da (.int sh)), some (.da (tupI ms)), a6, none, none, none, some x10, none] =
            some (.ok (.da (.list ((drp c p sh ms).map eM))) [some (.obj A.C (fl c)), some (.da (eP p)), some Lo, some (.own ow), some (.da (.int sh)), some (.da (tupI ms)), a6, none, none, none, some x10, none]) := fun ow x10 h10 => by
          have hf : (drp c p sh ms).map eM = ms.filterMap fun m => ((drR c p sh m).map fun q => (Stp.dp sh m, q)).map eM := by
            rw [fm_flat]; rfl
          rw [hf]
          unfold c4_moves
          rw [lcM_tl (fun m => PyData.tuple [.int m, eO eP (drR c p sh m)]) (l := ms) (fun m => ((drR c p sh m).map fun q => (Stp.dp sh m, q)).map eM) (by subst h10; rfl) (by unfold LIM; omega) (fun m hm => ?_)]
          unfold stepV
          subst hLo h10
          cases hcr : drR c p sh m with
          | none => simp [Pd.runN, Pd.runF, Pd.seqS, Pd.ifS, Pd.retS, Pd.withE, Pd.andV, Pd.orV, Pd.boolM, Pd.notM, Pd.andM, Pd.orM, Pd.ifM, Pd.isiM, Pd.bindM, Pd.varM, Pd.liftO, Pd.isiD, Pd.tyOfD, Pd.asB, Pd.notV, Pd.chainM, Pd.op2M, Pd.leD, Pd.ltD, Pd.gtD, Pd.geD, Pd.intD, Pd.retM, Pd.outOf, Pd.ownAt, Pd.bltM, Pd.vals, Pd.lenD, Pd.consM, Pd.callM, Pd.ownSlots, Pd.svsOf, Pd.svOf, Pd.setOwn, Pd.nxS, Pd.setM, isOwn_zero, isOwn_succ, isOwn_nil, isOD_zero, isOD_succ, isOD_nil, ownB_free, mrg_free, Pd.wipeE, mergeE_nil, mergeE_cons, Pd.fldM, Pd.fldOf, fl_rooms, fl_sizes, fl_zones, fl_far, fl_alive, fl_apart, Pd.siM, Pd.seqOf, Pd.asgS, Pd.setS, Pd.dropS, tupG, consG, nilG, isNotD, isNone, m6, eO]
          | some q => simp [Pd.runN, Pd.runF, Pd.seqS, Pd.ifS, Pd.retS, Pd.withE, Pd.andV, Pd.orV, Pd.boolM, Pd.notM, Pd.andM, Pd.orM, Pd.ifM, Pd.isiM, Pd.bindM, Pd.varM, Pd.liftO, Pd.isiD, Pd.tyOfD, Pd.asB, Pd.notV, Pd.chainM, Pd.op2M, Pd.leD, Pd.ltD, Pd.gtD, Pd.geD, Pd.intD, Pd.retM, Pd.outOf, Pd.ownAt, Pd.bltM, Pd.vals, Pd.lenD, Pd.consM, Pd.callM, Pd.ownSlots, Pd.svsOf, Pd.svOf, Pd.setOwn, Pd.nxS, Pd.setM, isOwn_zero, isOwn_succ, isOwn_nil, isOD_zero, isOD_succ, isOD_nil, ownB_free, mrg_free, Pd.wipeE, mergeE_nil, mergeE_cons, Pd.fldM, Pd.fldOf, fl_rooms, fl_sizes, fl_zones, fl_far, fl_alive, fl_apart, Pd.siM, Pd.seqOf, Pd.asgS, Pd.setS, Pd.dropS, tupG, consG, nilG, isNotD, ↓isNone_eP, isNone, m6, eO, tupM, datas, eM, eS]
        have hlim : D.length + (drp c p sh ms).length < LIM := by unfold LIM; omega
        refine ⟨[some (.obj A.C (fl c)), some (.da (eP p)), some Lo, some (.own (D.map eM)), some (.da (.int sh)), some (.da (tupI ms)), a6, none, none, none, z10, none], _, by subst hLo; simp [Pd.runN, Pd.runF, Pd.seqS, Pd.ifS, Pd.retS, Pd.withE, Pd.andV, Pd.orV, Pd.boolM, Pd.notM, Pd.andM, Pd.orM, Pd.ifM, Pd.isiM, Pd.bindM, Pd.varM, Pd.liftO, Pd.isiD, Pd.tyOfD, Pd.asB, Pd.notV, Pd.chainM, Pd.op2M, Pd.leD, Pd.ltD, Pd.gtD, Pd.geD, Pd.intD, Pd.retM, Pd.outOf, Pd.ownAt, Pd.bltM, Pd.vals, Pd.lenD, Pd.consM, Pd.callM, Pd.ownSlots, Pd.svsOf, Pd.svOf, Pd.setOwn, Pd.nxS, Pd.setM, isOwn_zero, isOwn_succ, isOwn_nil, isOD_zero, isOD_succ, isOD_nil, ownB_free, mrg_free, Pd.wipeE, mergeE_nil, mergeE_cons, Pd.fldM, Pd.fldOf, fl_rooms, fl_sizes, fl_zones, fl_far, fl_alive, fl_apart, Pd.siM, Pd.seqOf, Pd.asgS, Pd.setS, Pd.dropS, tupG, consG, nilG, n4, n5], .inl (by have w1' := fun ow => w1 ow _ rfl; subst hLo; simp [Pd.runN, Pd.runF, Pd.seqS, Pd.ifS, Pd.retS, Pd.withE, Pd.andV, Pd.orV, Pd.boolM, Pd.notM, Pd.andM, Pd.orM, Pd.ifM, Pd.isiM, Pd.bindM, Pd.varM, Pd.liftO, Pd.isiD, Pd.tyOfD, Pd.asB, Pd.notV, Pd.chainM, Pd.op2M, Pd.leD, Pd.ltD, Pd.gtD, Pd.geD, Pd.intD, Pd.retM, Pd.outOf, Pd.ownAt, Pd.bltM, Pd.vals, Pd.lenD, Pd.consM, Pd.callM, Pd.ownSlots, Pd.svsOf, Pd.svOf, Pd.setOwn, Pd.nxS, Pd.setM, isOwn_zero, isOwn_succ, isOwn_nil, isOD_zero, isOD_succ, isOD_nil, ownB_free, mrg_free, Pd.wipeE, mergeE_nil, mergeE_cons, Pd.fldM, Pd.fldOf, fl_rooms, fl_sizes, fl_zones, fl_far, fl_alive, fl_apart, Pd.siM, Pd.seqOf, Pd.asgS, Pd.setS, Pd.dropS, w0, w1', n10, extS, hlim]; rfl), some (.da (.int sh)), some (.da (tupI ms)), some (.da (.list (ms.map fun m => PyData.tuple [.int m, eO eP (drR c p sh m)]))), rfl, rfl, rfl, ?_⟩
        rw [List.flatMap_append, List.flatMap_cons, List.flatMap_nil, List.append_nil, ← List.append_assoc, hD]
        simp [hLo])
    exact ⟨z4, z5, z10, n4, n5, n10, h1⟩
  obtain ⟨b4, b5, b10, k4, k5, k10, hloop2⟩ := loop2
  unfold F_moves g_moves mvs
  rw [hC]
  subst hLo
  simp [Pd.runN, Pd.runF, Pd.seqS, Pd.ifS, Pd.retS, Pd.withE, Pd.andV, Pd.orV, Pd.boolM, Pd.notM, Pd.andM, Pd.orM, Pd.ifM, Pd.isiM, Pd.bindM, Pd.varM, Pd.liftO, Pd.isiD, Pd.tyOfD, Pd.asB, Pd.notV, Pd.chainM, Pd.op2M, Pd.leD, Pd.ltD, Pd.gtD, Pd.geD, Pd.intD, Pd.retM, Pd.outOf, Pd.ownAt, Pd.bltM, Pd.vals, Pd.lenD, Pd.consM, Pd.callM, Pd.ownSlots, Pd.svsOf, Pd.svOf, Pd.setOwn, Pd.nxS, Pd.setM, isOwn_zero, isOwn_succ, isOwn_nil, isOD_zero, isOD_succ, isOD_nil, ownB_free, mrg_free, Pd.wipeE, mergeE_nil, mergeE_cons, Pd.fldM, Pd.fldOf, fl_rooms, fl_sizes, fl_zones, fl_far, fl_alive, fl_apart, Pd.siM, Pd.seqOf, Pd.asgS, Pd.setS, Pd.dropS, hv, ownS, newLM, datas, hloop1, hloop2, frzS]
end K01
end
section
set_option Elab.async false
set_option linter.all false
set_option maxRecDepth 100000
set_option maxHeartbeats 1000000
namespace K01
open PySem Pd
/-! ### the law's steps -/
theorem asc_of {n : Int} : ∀ {l : List Int} {low : Int}, l.Pairwise (· ≤ ·) → l.Nodup → (∀ m ∈ l, low ≤ m ∧ m < n) → Asc n low l
  | [], low, _, _, _ => trivial
  | a :: l, low, h1, h2, h3 => by
    have h1 := List.pairwise_cons.mp h1
    have h2 := List.nodup_cons.mp h2
    refine ⟨(h3 a (.head _)).1, (h3 a (.head _)).2, asc_of h1.2 h2.2 fun m hm => ⟨?_, (h3 m (.tail _ hm)).2⟩⟩
    have := h1.1 m hm
    have : a ≠ m := fun e => h2.1 (by rw [e]; exact hm)
    omega
theorem asc_pw {n : Int} : ∀ {l : List Int} {low : Int}, Asc n low l → l.Pairwise (· ≤ ·)
  | [], _, _ => List.Pairwise.nil
  | a :: l, low, h => List.pairwise_cons.mpr ⟨fun m hm => by have := ((asc_nd h.2.2).1 m hm).1; omega, asc_pw h.2.2⟩
theorem isort_pw {l : List Int} (h : l.Pairwise (· ≤ ·)) : isort l = l := (isort_uniq (List.Perm.refl l) h).symm
theorem asc_subs2 : ∀ {l : List Int}, Asc 2 0 l → l ∈ subs 2
  | [], _ => by simp [subs]
  | [a], h => by
    have h1 := h.1; have h2 := h.2.1
    have : a = 0 ∨ a = 1 := by omega
    rcases this with rfl | rfl <;> simp [subs]
  | [a, b], h => by
    have h1 := h.1; have h2 := h.2.2.1; have h3 := h.2.2.2.1
    have e1 : a = 0 := by omega
    have e2 : b = 1 := by omega
    subst e1; subst e2; simp [subs]
  | a :: b :: d :: r, h => by
    have h1 := h.1; have h2 := h.2.2.1; have h3 := h.2.2.2.2.1; have h4 := h.2.2.2.2.2.1
    omega
theorem asc_subs3 : ∀ {l : List Int}, Asc 3 0 l → l ∈ subs 3
  | [], _ => by simp [subs]
  | [a], h => by
    have h1 := h.1; have h2 := h.2.1
    have : a = 0 ∨ a = 1 ∨ a = 2 := by omega
    rcases this with rfl | rfl | rfl <;> simp [subs]
  | [a, b], h => by
    have h1 := h.1; have h2 := h.2.2.1; have h3 := h.2.2.2.1
    have : (a = 0 ∧ b = 1) ∨ (a = 0 ∧ b = 2) ∨ (a = 1 ∧ b = 2) := by omega
    rcases this with ⟨rfl, rfl⟩ | ⟨rfl, rfl⟩ | ⟨rfl, rfl⟩ <;> simp [subs]
  | [a, b, d], h => by
    have h1 := h.1; have h2 := h.2.2.1; have h3 := h.2.2.2.2.1; have h4 := h.2.2.2.2.2.1
    have e1 : a = 0 := by omega
    have e2 : b = 1 := by omega
    have e3 : d = 2 := by omega
    subst e1; subst e2; subst e3; simp [subs]
  | a :: b :: d :: e :: r, h => by
    have h1 := h.1; have h2 := h.2.2.1; have h3 := h.2.2.2.2.1; have h4 := h.2.2.2.2.2.2.1; have h5 := h.2.2.2.2.2.2.2.1
    omega
theorem asc_subs {c : Cl} (hc : OkC c) {l : List Int} (h : Asc c.rooms.length 0 l) : l ∈ subs c.rooms.length := by
  rcases hc.n23 with e | e <;> rw [e] at h ⊢
  · exact asc_subs2 h
  · exact asc_subs3 h
theorem asc_ch {c : Cl} (hc : OkC c) {l : List Int} (h : Asc c.rooms.length 0 l) : l ∈ ch c ↔ mayLie c l = true := by
  unfold ch
  rw [List.mem_filter]
  exact ⟨fun h => h.2, fun h' => ⟨asc_subs hc h, h'⟩⟩
theorem grow_asc {n t : Int} {ms : List Int} (h : Asc n 0 ms) (ht : 0 ≤ t ∧ t < n) (hn : t ∉ ms) : Asc n 0 (isort (ms ++ [t])) := by
  have a := asc_nd h
  refine asc_of (isort_sorted _) ?_ fun m hm => ?_
  · refine (isort_perm _).nodup_iff.mpr ?_
    rw [List.nodup_append]
    refine ⟨a.2, by simp, fun x hx y hy e => ?_⟩
    rw [List.mem_singleton] at hy
    rw [e, hy] at hx
    exact hn hx
  · rw [mem_isort] at hm
    rcases List.mem_append.mp hm with hm | hm
    · exact a.1 m hm
    · rw [List.mem_singleton] at hm; rw [hm]; exact ht
theorem filter_asc {n : Int} (P : Int → Bool) {ms : List Int} (h : Asc n 0 ms) : Asc n 0 (ms.filter P) := by
  have a := asc_nd h
  exact asc_of ((asc_pw h).filter _) (a.2.filter _) fun m hm => a.1 m (List.mem_filter.mp hm).1
theorem wi_get {p : P'} {sh : Nat} {ms : List Int} (h : sh < p.length) : (wi p sh ms)[sh]? = some ms := by
  unfold wi
  rw [List.append_assoc, List.getElem?_append_right (by rw [List.length_take]; omega)]
  rw [List.length_take, Nat.min_eq_left (by omega), Nat.sub_self]
  rfl
theorem wi_len {p : P'} {sh : Nat} {ms : List Int} (h : sh < p.length) : (wi p sh ms).length = p.length := by
  unfold wi
  rw [List.length_append, List.length_append, List.length_take, List.length_drop, List.length_singleton]
  omega
theorem split_at {α : Type} {l : List α} {k : Nat} {a : α} (h : l[k]? = some a) : l = l.take k ++ a :: l.drop (k + 1) := by
  have hk := (List.getElem?_eq_some_iff.mp h).1
  have e := (List.getElem?_eq_some_iff.mp h).2
  conv => lhs; rw [← List.take_append_drop k l]
  rw [List.drop_eq_getElem_cons hk, e]
theorem hl_wi {c : Cl} {p : P'} {sh : Nat} {ms x : List Int} (hlen : p.length = c.sizes.length) (hm : p[sh]? = some ms) (i : Int) : hl c (wi p sh x) i + (if i ∈ ms then size c sh else 0) = hl c p i + (if i ∈ x then size c sh else 0) := by
  have hk := (List.getElem?_eq_some_iff.mp hm).1
  have hs := size_at (c := c) (sh := sh) (by omega)
  unfold hl
  have e1 : c.sizes.zip p = (c.sizes.take sh).zip (p.take sh) ++ (size c sh, ms) :: (c.sizes.drop (sh + 1)).zip (p.drop (sh + 1)) := by
    conv => lhs; rw [split_at hs, split_at hm]
    rw [List.zip_append (by rw [List.length_take, List.length_take, hlen]), List.zip_cons_cons]
  have e2 : c.sizes.zip (wi p sh x) = (c.sizes.take sh).zip (p.take sh) ++ (size c sh, x) :: (c.sizes.drop (sh + 1)).zip (p.drop (sh + 1)) := by
    unfold wi
    conv => lhs; rw [split_at hs, List.append_assoc]
    rw [List.zip_append (by rw [List.length_take, List.length_take, hlen])]
    rfl
  rw [e1, e2]
  simp only [List.map_append, List.map_cons, List.sum_append, List.sum_cons]
  omega
theorem room_fit {c : Cl} {p : P'} (h : fits c p = true) {t : Int} (ht : inR c t) : hl c p t ≤ room c t := fits_iff.mp h t (mem_ns.mpr ht)
theorem fits_wi {c : Cl} {p : P'} (hc : OkC c) {sh : Nat} {ms : List Int} {t : Int} (hf : fits c p = true) (hlen : p.length = c.sizes.length) (hm : p[sh]? = some ms) (ht : inR c t) (hn : t ∉ ms) :
    fits c (wi p sh (isort (ms ++ [t]))) = true ↔ ¬ room c t < hl c p t + size c sh := by
  rw [fits_iff]
  have hz : ∀ i, hl c (wi p sh (isort (ms ++ [t]))) i = hl c p i + if i = t then size c sh else 0 := fun i => by
    have := hl_wi (c := c) (x := isort (ms ++ [t])) hlen hm i
    by_cases e : i = t
    · subst e
      have h2 : i ∈ isort (ms ++ [i]) := by rw [mem_isort]; simp
      rw [if_neg hn, if_pos h2] at this
      rw [if_pos rfl]; omega
    · have h2 : i ∈ isort (ms ++ [t]) ↔ i ∈ ms := by rw [mem_isort]; simp [e]
      rw [if_neg e]
      by_cases hi : i ∈ ms
      · rw [if_pos hi, if_pos (h2.mpr hi)] at this; omega
      · rw [if_neg hi, if_neg fun z => hi (h2.mp z)] at this; omega
  constructor
  · intro h
    have := h t (mem_ns.mpr ht)
    rw [hz t, if_pos rfl] at this
    omega
  · intro h i hi
    rw [hz i]
    have := room_fit hf (mem_ns.mp hi)
    by_cases e : i = t
    · subst e; rw [if_pos rfl]; omega
    · rw [if_neg e]; omega
/-- a placing -/
structure Pl (c : Cl) (p : P') : Prop where
  len : p.length = c.sizes.length
  mem : ∀ ms ∈ p, ms ∈ ch c
  fit : fits c p = true
theorem Pl.wild {c : Cl} (hc : OkC c) {p : P'} (h : Pl c p) : Wild c p := ⟨h.len, fun ms hm => (ch_asc hc (h.mem ms hm)).1, fun ms hm => (ch_asc hc (h.mem ms hm)).2⟩
theorem Pl.isP {c : Cl} {p : P'} (h : Pl c p) : isP c p = true := by
  unfold K01.isP
  rw [h.fit, Bool.and_true, List.all_eq_true]
  exact fun ms hm => (List.mem_filter.mp (h.mem ms hm)).2
theorem cpR_law {c : Cl} (hc : OkC c) {p : P'} (h : Pl c p) {sh : Nat} {ms : List Int} (hm : p[sh]? = some ms) {t : Int} (ht : inR c t) :
    cpR c p sh t = if t ∈ ms ∨ isort (ms ++ [t]) ∉ ch c then none else if fits c (wi p sh (isort (ms ++ [t]))) = true then some (wi p sh (isort (ms ++ [t]))) else none := by
  have e1 : msOf p sh = ms := by unfold msOf; rw [hm]; rfl
  have hmem : ms ∈ p := List.mem_of_getElem? hm
  unfold cpR rp
  rw [e1]
  by_cases h1 : t ∈ ms
  · rw [if_pos (.inl h1), if_pos (.inl h1)]
  · have ha := grow_asc ((h.wild hc).asc ms hmem) ht h1
    have hch := asc_ch hc ha
    have hf := fits_wi hc h.fit h.len hm ht h1
    by_cases h2 : mayLie c (isort (ms ++ [t])) = true
    · rw [if_pos h2, if_neg (c := t ∈ ms ∨ isort (ms ++ [t]) ∉ ch c) (fun z => z.elim h1 fun z => z (hch.mpr h2))]
      by_cases h3 : room c t < hl c p t + size c sh
      · rw [if_pos (.inr h3), if_neg fun z => hf.mp z h3]
      · rw [if_neg fun z => z.elim h1 h3, if_pos (hf.mpr h3)]
    · rw [if_neg h2, if_pos (c := t ∈ ms ∨ isort (ms ++ [t]) ∉ ch c) (.inr fun z => h2 (hch.mp z)), ite_self]
theorem drR_law {c : Cl} (hc : OkC c) {p : P'} (h : Pl c p) {sh : Nat} {ms : List Int} (hm : p[sh]? = some ms) {m : Int} (hmm : m ∈ ms) :
    drR c p sh m = if (ms.filter fun x => decide (x ≠ m)) ∈ ch c then some (wi p sh (ms.filter fun x => decide (x ≠ m))) else none := by
  have e1 : msOf p sh = ms := by unfold msOf; rw [hm]; rfl
  have hmem : ms ∈ p := List.mem_of_getElem? hm
  unfold drR rp
  rw [e1, if_pos hmm]
  have hch := asc_ch hc (filter_asc (fun x => decide (x ≠ m)) ((h.wild hc).asc ms hmem))
  by_cases h2 : mayLie c (ms.filter fun x => decide (x ≠ m)) = true
  · rw [if_pos h2, if_pos (hch.mpr h2)]
  · rw [if_neg h2, if_neg fun z => h2 (hch.mp z)]
def pr (c : Cl) : Stp → Int
  | .cp sh a b => if zn c a = zn c b then size c sh else size c sh * c.far
  | .dp _ _ => 1
def eL (c : Cl) (r : Stp × P') : PyData := .tuple [eS r.1, eP r.2, .int (pr c r.1)]
theorem v_law_with (A : Ads) (p : P') (sh : Nat) (x : PyData) (l : List Int) (hx : x = tupI l ∨ x = .list (l.map .int)) (hp : p.length ≤ 10) : F__law_with A [.da (eP p), .da (.int sh), .da x] = some (.ret (.da (eP (wi p sh (isort l)))) []) := by
  have es : sortedD [.da x] = some (.da (.list ((isort l).map .int))) := by
    rcases hx with rfl | rfl
    · exact sorted_tupI l
    · exact sorted_ints l
  have h2 : (p.take sh).length + [isort l].length ≤ LIM := by rw [List.length_take]; simp [LIM]; omega
  have h3 : (p.take sh ++ [isort l]).length + (p.drop (sh + 1)).length ≤ LIM := by rw [List.length_append, List.length_take, List.length_drop]; simp [LIM]; omega
  have a1 := add_eP _ _ h2
  have a2 := add_eP _ _ h3
  unfold F__law_with g__law_with
  simp [Pd.runN, Pd.runF, Pd.seqS, Pd.ifS, Pd.retS, Pd.withE, Pd.andV, Pd.orV, Pd.boolM, Pd.notM, Pd.andM, Pd.orM, Pd.ifM, Pd.isiM, Pd.bindM, Pd.varM, Pd.liftO, Pd.isiD, Pd.tyOfD, Pd.asB, Pd.notV, Pd.chainM, Pd.op2M, Pd.leD, Pd.ltD, Pd.gtD, Pd.geD, Pd.intD, Pd.retM, Pd.outOf, Pd.ownAt, Pd.bltM, Pd.vals, Pd.lenD, Pd.consM, Pd.callM, Pd.ownSlots, Pd.svsOf, Pd.svOf, Pd.setOwn, Pd.nxS, Pd.setM, isOwn_zero, isOwn_succ, isOwn_nil, isOD_zero, isOD_succ, isOD_nil, ownB_free, mrg_free, Pd.wipeE, mergeE_nil, mergeE_cons, Pd.fldM, Pd.fldOf, fl_rooms, fl_sizes, fl_zones, fl_far, fl_alive, fl_apart, Pd.siM, Pd.seqOf, Pd.asgS, Pd.setS, Pd.dropS, es, tuple_ints, sliceM, partM, asI, slice_take, slice_drop, tupM, datas, sing_eP, a1, a2, addD.eq_1, wi]
theorem mulOk_of {i j : Int} (h1 : i.natAbs < 2 ^ 200) (h2 : j.natAbs < 2 ^ 200) : mulOk i j = true := by
  unfold mulOk
  have key : ∀ n : Nat, n < 2 ^ 200 → n.log2 ≤ 200 := fun n hn => by
    by_cases h : n = 0
    · subst h; decide
    · exact Nat.le_of_lt ((Nat.log2_lt h).mpr hn)
  have k1 := key _ h1
  have k2 := key _ h2
  exact decide_eq_true (by omega)
structure OkF (c : Cl) : Prop where
  far : 1 ≤ c.far ∧ c.far ≤ 3
  sz : ∀ s ∈ c.sizes, s ≤ 3
theorem size_ok {c : Cl} (hc : OkC c) (hF : OkF c) (sh : Nat) : 0 ≤ size c sh ∧ size c sh ≤ 3 := by
  unfold size
  cases h : c.sizes[sh]? with
  | none => exact ⟨Int.le_refl _, by decide⟩
  | some s =>
    have hm := List.mem_of_getElem? h
    have := hc.sp s hm
    have := hF.sz s hm
    exact ⟨by simp; omega, by simpa using this⟩
theorem fee_ok {c : Cl} (hc : OkC c) (hF : OkF c) (sh : Nat) : mulOk (size c sh) c.far = true := by
  have := size_ok hc hF sh
  have := hF.far
  exact mulOk_of (by omega) (by omega)
end K01
end
section
set_option Elab.async false
set_option linter.all false
set_option maxRecDepth 100000
set_option maxHeartbeats 1000000
namespace K01
open PySem Pd
theorem snoc_eL (c : Cl) (L : List (Stp × P')) (r : Stp × P') : L.map (eL c) ++ [eL c r] = (L ++ [r]).map (eL c) := by simp
theorem cop1_len (c : Cl) (p : P') (sh : Nat) (src t : Int) : (cop1 c p sh src t).length ≤ 1 := toList_len _
section
variable (A : Ads) (c : Cl) (hc : OkC c) (hF : OkF c) (p : P') (h : Pl c p)
include hc hF h
theorem copies_one {able : SV} (hable : able = .da (.list ((ch c).map tupI))) {sh : Nat} {ms : List Int} (hm : p[sh]? = some ms) {src : Int} (hsrc : src ∈ ms) (C : List (Stp × P')) (ow4 : List PyData) (z8 z9 z10 z11 : Option SV) (n8 : free z8 = true) (n9 : free z9 = true) (n10 : free z10 = true) (n11 : free z11 = true) (hC : C.length ≤ 10000) :
    ∃ w8 w9 w10, free w8 = true ∧ free w9 = true ∧ free w10 = true ∧ c0__law_moves A [some (.obj A.C (fl c)), some (.da (eP p)), some able, some (.own (C.map (eL c))), some (.own ow4), some (.da (.int sh)), some (.da (tupI ms)), some (.da (.int src)), z8, z9, z10, z11, none] =
      some (.nx [some (.obj A.C (fl c)), some (.da (eP p)), some able, some (.own ((C ++ (ns c.rooms.length).flatMap fun t => cop1 c p sh src t).map (eL c))), some (.own ow4), some (.da (.int sh)), some (.da (tupI ms)), some (.da (.int src)), w8, w9, w10, z11, none]) := by
  have hmem : ms ∈ p := List.mem_of_getElem? hm
  have hw := h.wild hc
  have hm3 := hw.m3 hmem hc
  have hlt : sh < p.length := (List.getElem?_eq_some_iff.mp hm).1
  have hpl : p.length ≤ 3 := by rw [h.len]; exact hc.sl.2
  have hn : c.rooms.length ≤ 1000 := by have := hc.rl; omega
  have hsz : c.sizes.length ≤ 1000 := by have := hc.sl; omega
  obtain ⟨e, h1, w8, w9, w10, k8, k9, k10, rfl⟩ := forS_inv PyData.int (fi := rg1M (consM (bltM lenD (consM (fldM A.C "_rooms" (varM 0)) (retM []))) (retM []))) (g := setM 8)
    (body := (seqS (setS 9 (Pd.bindM (consM (varM 1) (consM (varM 5) (consM (op2M addD (varM 6) (tupM (consM (varM 8) (retM [])))) (retM [])))) (callM (F__law_with A)))) (seqS (ifS (orM (boolM (op2M (inD false) (varM 8) (varM 6))) (boolM (op2M (inD true) (op2M ixD (varM 9) (varM 5)) (varM 2)))) (fun env => some (.ct env)) nxS) (ifS (boolM (Pd.bindM (consM (varM 0) (consM (varM 9) (retM []))) (callM (F__law_fits A)))) (seqS (setS 10 (op2M ixD (fldM A.C "_sizes" (varM 0)) (varM 5))) (seqS (ifS (boolM (op2M neD (op2M ixD (fldM A.C "_zones" (varM 0)) (varM 7)) (op2M ixD (fldM A.C "_zones" (varM 0)) (varM 8)))) (setS 10 (op2M mulD (varM 10) (fldM A.C "_far" (varM 0)))) nxS) (appS 3 (tupM (consM (tupM (consM (retM (.da (.str "copy"))) (consM (varM 5) (consM (varM 7) (consM (varM 8) (retM [])))))) (consM (varM 9) (consM (varM 10) (retM [])))))))) nxS))))
    (l := ns c.rooms.length) (env := [some (.obj A.C (fl c)), some (.da (eP p)), some able, some (.own (C.map (eL c))), some (.own ow4), some (.da (.int sh)), some (.da (tupI ms)), some (.da (.int src)), z8, z9, z10, z11, none])
    (fun done e => ∃ w8 w9 w10, free w8 = true ∧ free w9 = true ∧ free w10 = true ∧ e = [some (.obj A.C (fl c)), some (.da (eP p)), some able, some (.own ((C ++ done.flatMap fun t => cop1 c p sh src t).map (eL c))), some (.own ow4), some (.da (.int sh)), some (.da (tupI ms)), some (.da (.int src)), w8, w9, w10, z11, none])
    (src_ns hc A _) ⟨z8, z9, z10, n8, n9, n10, by simp⟩ (fun done t rest env hd hp => by
      obtain ⟨w8, w9, w10, k8, k9, k10, rfl⟩ := hp
      have ht : inR c t := mem_ns.mp (by rw [← hd]; simp)
      have hDl : (C ++ done.flatMap fun t => cop1 c p sh src t).length ≤ 10000 + 1000 := by
        have h1 := flat_len (fun t => cop1 c p sh src t) 1 done fun t _ => cop1_len c p sh src t
        have h2 := congrArg List.length hd
        rw [ns_len, List.length_append, List.length_cons] at h2
        rw [List.length_append]; omega
      have a1 : addD (.da (tupI ms)) (.da (.tuple [.int t])) = some (.da (tupI (ms ++ [t]))) := add_tupI ms [t] (by simp [LIM]; omega)
      have vw := v_law_with A p sh _ (ms ++ [t]) (.inl rfl) (by omega)
      have ix := ix_eP (wi_get (p := p) (ms := isort (ms ++ [t])) hlt)
      have inl := encI.inL true (isort (ms ++ [t])) (ch c)
      have vf := v_law_fits A c (wi p sh (isort (ms ++ [t]))) hn hsz
      have hsh : sh < c.sizes.length := by rw [← h.len]; exact hlt
      have fo := fee_ok hc hF sh
      have hsr : inR c src := hw.inR hmem src hsrc
      have hr := cpR_law hc h hm ht
      have ecop : (done ++ [t]).flatMap (fun t => cop1 c p sh src t) = (done.flatMap fun t => cop1 c p sh src t) ++ cop1 c p sh src t := by simp
      rw [ecop, ← List.append_assoc]
      generalize hD : (C ++ done.flatMap fun t => cop1 c p sh src t) = D at *
      have hDl2 : D.length < LIM := by unfold LIM; omega
      have hs : setM 8 (.da (.int t)) [some (.obj A.C (fl c)), some (.da (eP p)), some able, some (.own (D.map (eL c))), some (.own ow4), some (.da (.int sh)), some (.da (tupI ms)), some (.da (.int src)), w8, w9, w10, z11, none] =
          some (.ok () [some (.obj A.C (fl c)), some (.da (eP p)), some able, some (.own (D.map (eL c))), some (.own ow4), some (.da (.int sh)), some (.da (tupI ms)), some (.da (.int src)), some (.da (.int t)), w9, w10, z11, none]) := by simp [Pd.runN, Pd.runF, Pd.seqS, Pd.ifS, Pd.retS, Pd.withE, Pd.andV, Pd.orV, Pd.boolM, Pd.notM, Pd.andM, Pd.orM, Pd.ifM, Pd.isiM, Pd.bindM, Pd.varM, Pd.liftO, Pd.isiD, Pd.tyOfD, Pd.asB, Pd.notV, Pd.chainM, Pd.op2M, Pd.leD, Pd.ltD, Pd.gtD, Pd.geD, Pd.intD, Pd.retM, Pd.outOf, Pd.ownAt, Pd.bltM, Pd.vals, Pd.lenD, Pd.consM, Pd.callM, Pd.ownSlots, Pd.svsOf, Pd.svOf, Pd.setOwn, Pd.nxS, Pd.setM, isOwn_zero, isOwn_succ, isOwn_nil, isOD_zero, isOD_succ, isOD_nil, ownB_free, mrg_free, Pd.wipeE, mergeE_nil, mergeE_cons, Pd.fldM, Pd.fldOf, fl_rooms, fl_sizes, fl_zones, fl_far, fl_alive, fl_apart, Pd.siM, Pd.seqOf, Pd.asgS, Pd.setS, Pd.dropS, k8]
      subst hable
      by_cases h1 : t ∈ ms
      · have e1 : cop1 c p sh src t = [] := by unfold cop1; rw [hr, if_pos (.inl h1)]; rfl
        rw [e1, List.append_nil]
        refine ⟨_, [some (.obj A.C (fl c)), some (.da (eP p)), some (.da (.list ((ch c).map tupI))), some (.own (D.map (eL c))), some (.own ow4), some (.da (.int sh)), some (.da (tupI ms)), some (.da (.int src)), some (.da (.int t)), some (.da (eP (wi p sh (isort (ms ++ [t]))))), w10, z11, none], hs, .inr ?_, _, _, w10, rfl, rfl, k10, rfl⟩
        simp [Pd.runN, Pd.runF, Pd.seqS, Pd.ifS, Pd.retS, Pd.withE, Pd.andV, Pd.orV, Pd.boolM, Pd.notM, Pd.andM, Pd.orM, Pd.ifM, Pd.isiM, Pd.bindM, Pd.varM, Pd.liftO, Pd.isiD, Pd.tyOfD, Pd.asB, Pd.notV, Pd.chainM, Pd.op2M, Pd.leD, Pd.ltD, Pd.gtD, Pd.geD, Pd.intD, Pd.retM, Pd.outOf, Pd.ownAt, Pd.bltM, Pd.vals, Pd.lenD, Pd.consM, Pd.callM, Pd.ownSlots, Pd.svsOf, Pd.svOf, Pd.setOwn, Pd.nxS, Pd.setM, isOwn_zero, isOwn_succ, isOwn_nil, isOD_zero, isOD_succ, isOD_nil, ownB_free, mrg_free, Pd.wipeE, mergeE_nil, mergeE_cons, Pd.fldM, Pd.fldOf, fl_rooms, fl_sizes, fl_zones, fl_far, fl_alive, fl_apart, Pd.siM, Pd.seqOf, Pd.asgS, Pd.setS, Pd.dropS, a1, vw, k9, in_tupI, h1, tupM, datas]
      · by_cases h2 : isort (ms ++ [t]) ∈ ch c
        · rw [if_neg (fun z => z.elim h1 fun z => z h2)] at hr
          cases h3 : fits c (wi p sh (isort (ms ++ [t]))) with
          | false =>
            have e1 : cop1 c p sh src t = [] := by unfold cop1; rw [hr, h3]; rfl
            rw [e1, List.append_nil]
            refine ⟨_, [some (.obj A.C (fl c)), some (.da (eP p)), some (.da (.list ((ch c).map tupI))), some (.own (D.map (eL c))), some (.own ow4), some (.da (.int sh)), some (.da (tupI ms)), some (.da (.int src)), some (.da (.int t)), some (.da (eP (wi p sh (isort (ms ++ [t]))))), w10, z11, none], hs, .inl ?_, _, _, w10, rfl, rfl, k10, rfl⟩
            simp [Pd.runN, Pd.runF, Pd.seqS, Pd.ifS, Pd.retS, Pd.withE, Pd.andV, Pd.orV, Pd.boolM, Pd.notM, Pd.andM, Pd.orM, Pd.ifM, Pd.isiM, Pd.bindM, Pd.varM, Pd.liftO, Pd.isiD, Pd.tyOfD, Pd.asB, Pd.notV, Pd.chainM, Pd.op2M, Pd.leD, Pd.ltD, Pd.gtD, Pd.geD, Pd.intD, Pd.retM, Pd.outOf, Pd.ownAt, Pd.bltM, Pd.vals, Pd.lenD, Pd.consM, Pd.callM, Pd.ownSlots, Pd.svsOf, Pd.svOf, Pd.setOwn, Pd.nxS, Pd.setM, isOwn_zero, isOwn_succ, isOwn_nil, isOD_zero, isOD_succ, isOD_nil, ownB_free, mrg_free, Pd.wipeE, mergeE_nil, mergeE_cons, Pd.fldM, Pd.fldOf, fl_rooms, fl_sizes, fl_zones, fl_far, fl_alive, fl_apart, Pd.siM, Pd.seqOf, Pd.asgS, Pd.setS, Pd.dropS, a1, vw, k9, in_tupI, h1, tupM, datas, ix, inl, h2, vf, h3]
          | true =>
            have e1 : cop1 c p sh src t = [(Stp.cp sh src t, wi p sh (isort (ms ++ [t])))] := by unfold cop1; rw [hr, h3]; rfl
            rw [e1]
            have hp0 : eL c (Stp.cp sh src t, wi p sh (isort (ms ++ [t]))) = .tuple [.tuple [.str "copy", .int sh, .int src, .int t], eP (wi p sh (isort (ms ++ [t]))), .int (if zn c src = zn c t then size c sh else size c sh * c.far)] := rfl
            refine ⟨_, [some (.obj A.C (fl c)), some (.da (eP p)), some (.da (.list ((ch c).map tupI))), some (.own ((D ++ [(Stp.cp sh src t, wi p sh (isort (ms ++ [t])))]).map (eL c))), some (.own ow4), some (.da (.int sh)), some (.da (tupI ms)), some (.da (.int src)), some (.da (.int t)), some (.da (eP (wi p sh (isort (ms ++ [t]))))), some (.da (.int (if zn c src = zn c t then size c sh else size c sh * c.far))), z11, none], hs, .inl ?_, _, _, _, rfl, rfl, rfl, rfl⟩
            rw [← snoc_eL, hp0]
            by_cases hz : zn c src = zn c t
            · simp [Pd.runN, Pd.runF, Pd.seqS, Pd.ifS, Pd.retS, Pd.withE, Pd.andV, Pd.orV, Pd.boolM, Pd.notM, Pd.andM, Pd.orM, Pd.ifM, Pd.isiM, Pd.bindM, Pd.varM, Pd.liftO, Pd.isiD, Pd.tyOfD, Pd.asB, Pd.notV, Pd.chainM, Pd.op2M, Pd.leD, Pd.ltD, Pd.gtD, Pd.geD, Pd.intD, Pd.retM, Pd.outOf, Pd.ownAt, Pd.bltM, Pd.vals, Pd.lenD, Pd.consM, Pd.callM, Pd.ownSlots, Pd.svsOf, Pd.svOf, Pd.setOwn, Pd.nxS, Pd.setM, isOwn_zero, isOwn_succ, isOwn_nil, isOD_zero, isOD_succ, isOD_nil, ownB_free, mrg_free, Pd.wipeE, mergeE_nil, mergeE_cons, Pd.fldM, Pd.fldOf, fl_rooms, fl_sizes, fl_zones, fl_far, fl_alive, fl_apart, Pd.siM, Pd.seqOf, Pd.asgS, Pd.setS, Pd.dropS, a1, vw, k9, in_tupI, h1, tupM, datas, ix, inl, h2, vf, h3, ix_size hsh, ix_zone hc hsr, ix_zone hc ht, neD_int', hz, k10, appS, hDl2]
            · simp [Pd.runN, Pd.runF, Pd.seqS, Pd.ifS, Pd.retS, Pd.withE, Pd.andV, Pd.orV, Pd.boolM, Pd.notM, Pd.andM, Pd.orM, Pd.ifM, Pd.isiM, Pd.bindM, Pd.varM, Pd.liftO, Pd.isiD, Pd.tyOfD, Pd.asB, Pd.notV, Pd.chainM, Pd.op2M, Pd.leD, Pd.ltD, Pd.gtD, Pd.geD, Pd.intD, Pd.retM, Pd.outOf, Pd.ownAt, Pd.bltM, Pd.vals, Pd.lenD, Pd.consM, Pd.callM, Pd.ownSlots, Pd.svsOf, Pd.svOf, Pd.setOwn, Pd.nxS, Pd.setM, isOwn_zero, isOwn_succ, isOwn_nil, isOD_zero, isOD_succ, isOD_nil, ownB_free, mrg_free, Pd.wipeE, mergeE_nil, mergeE_cons, Pd.fldM, Pd.fldOf, fl_rooms, fl_sizes, fl_zones, fl_far, fl_alive, fl_apart, Pd.siM, Pd.seqOf, Pd.asgS, Pd.setS, Pd.dropS, a1, vw, k9, in_tupI, h1, tupM, datas, ix, inl, h2, vf, h3, ix_size hsh, ix_zone hc hsr, ix_zone hc ht, neD_int', hz, k10, appS, hDl2, fo]
        · have e1 : cop1 c p sh src t = [] := by unfold cop1; rw [hr, if_pos (.inr h2)]; rfl
          rw [e1, List.append_nil]
          refine ⟨_, [some (.obj A.C (fl c)), some (.da (eP p)), some (.da (.list ((ch c).map tupI))), some (.own (D.map (eL c))), some (.own ow4), some (.da (.int sh)), some (.da (tupI ms)), some (.da (.int src)), some (.da (.int t)), some (.da (eP (wi p sh (isort (ms ++ [t]))))), w10, z11, none], hs, .inr ?_, _, _, w10, rfl, rfl, k10, rfl⟩
          simp [Pd.runN, Pd.runF, Pd.seqS, Pd.ifS, Pd.retS, Pd.withE, Pd.andV, Pd.orV, Pd.boolM, Pd.notM, Pd.andM, Pd.orM, Pd.ifM, Pd.isiM, Pd.bindM, Pd.varM, Pd.liftO, Pd.isiD, Pd.tyOfD, Pd.asB, Pd.notV, Pd.chainM, Pd.op2M, Pd.leD, Pd.ltD, Pd.gtD, Pd.geD, Pd.intD, Pd.retM, Pd.outOf, Pd.ownAt, Pd.bltM, Pd.vals, Pd.lenD, Pd.consM, Pd.callM, Pd.ownSlots, Pd.svsOf, Pd.svOf, Pd.setOwn, Pd.nxS, Pd.setM, isOwn_zero, isOwn_succ, isOwn_nil, isOD_zero, isOD_succ, isOD_nil, ownB_free, mrg_free, Pd.wipeE, mergeE_nil, mergeE_cons, Pd.fldM, Pd.fldOf, fl_rooms, fl_sizes, fl_zones, fl_far, fl_alive, fl_apart, Pd.siM, Pd.seqOf, Pd.asgS, Pd.setS, Pd.dropS, a1, vw, k9, in_tupI, h1, tupM, datas, ix, inl, h2])
  exact ⟨w8, w9, w10, k8, k9, k10, h1⟩
end
end K01
end
section
set_option Elab.async false
set_option linter.all false
set_option maxRecDepth 100000
set_option maxHeartbeats 1000000
namespace K01
open PySem Pd
def drp1 (c : Cl) (p : P') (sh : Nat) (m : Int) : List (Stp × P') := ((drR c p sh m).map fun q => (Stp.dp sh m, q)).toList
theorem drp1_len (c : Cl) (p : P') (sh : Nat) (m : Int) : (drp1 c p sh m).length ≤ 1 := toList_len _
section
variable (A : Ads) (c : Cl) (hc : OkC c) (hF : OkF c) (p : P') (h : Pl c p)
include hc hF h
theorem shard_one {able : SV} (hable : able = .da (.list ((ch c).map tupI))) {sh : Nat} {ms : List Int} (hm : p[sh]? = some ms) (C D : List (Stp × P')) (z7 z8 z9 z10 z11 : Option SV) (n7 : free z7 = true) (n8 : free z8 = true) (n9 : free z9 = true) (n10 : free z10 = true) (n11 : free z11 = true) (hC : C.length ≤ 1000) (hD : D.length ≤ 1000) :
    ∃ w7 w8 w9 w10 w11, free w7 = true ∧ free w8 = true ∧ free w9 = true ∧ free w10 = true ∧ free w11 = true ∧ c2__law_moves A [some (.obj A.C (fl c)), some (.da (eP p)), some able, some (.own (C.map (eL c))), some (.own (D.map (eL c))), some (.da (.int sh)), some (.da (tupI ms)), z7, z8, z9, z10, z11, none] =
      some (.nx [some (.obj A.C (fl c)), some (.da (eP p)), some able, some (.own ((C ++ cop c p sh ms).map (eL c))), some (.own ((D ++ drp c p sh ms).map (eL c))), some (.da (.int sh)), some (.da (tupI ms)), w7, w8, w9, w10, w11, none]) := by
  have hmem : ms ∈ p := List.mem_of_getElem? hm
  have hw := h.wild hc
  have hm3 := hw.m3 hmem hc
  have hlt : sh < p.length := (List.getElem?_eq_some_iff.mp hm).1
  have hpl : p.length ≤ 3 := by rw [h.len]; exact hc.sl.2
  have hrl := hc.rl
  obtain ⟨e, h1, w7, w8, w9, w10, w11, k7, k8, k9, k10, k11, rfl⟩ := forS_inv PyData.int (fi := siM (varM 6)) (g := setM 7)
    (body := (seqS (c0__law_moves A) (seqS (setS 11 (c1__law_moves A)) (seqS (setS 9 (Pd.bindM (consM (varM 1) (consM (varM 5) (consM (varM 11) (retM [])))) (callM (F__law_with A)))) (ifS (boolM (op2M (inD false) (op2M ixD (varM 9) (varM 5)) (varM 2))) (appS 4 (tupM (consM (tupM (consM (retM (.da (.str "drop"))) (consM (varM 5) (consM (varM 7) (retM []))))) (consM (varM 9) (consM (retM (.da (.int 1))) (retM [])))))) nxS)))))
    (l := ms) (env := [some (.obj A.C (fl c)), some (.da (eP p)), some able, some (.own (C.map (eL c))), some (.own (D.map (eL c))), some (.da (.int sh)), some (.da (tupI ms)), z7, z8, z9, z10, z11, none])
    (fun done e => ∃ w7 w8 w9 w10 w11, free w7 = true ∧ free w8 = true ∧ free w9 = true ∧ free w10 = true ∧ free w11 = true ∧ e = [some (.obj A.C (fl c)), some (.da (eP p)), some able, some (.own ((C ++ done.flatMap fun src => (ns c.rooms.length).flatMap fun t => cop1 c p sh src t).map (eL c))), some (.own ((D ++ done.flatMap fun m => drp1 c p sh m).map (eL c))), some (.da (.int sh)), some (.da (tupI ms)), w7, w8, w9, w10, w11, none])
    (by subst hable; simp [Pd.runN, Pd.runF, Pd.seqS, Pd.ifS, Pd.retS, Pd.withE, Pd.andV, Pd.orV, Pd.boolM, Pd.notM, Pd.andM, Pd.orM, Pd.ifM, Pd.isiM, Pd.bindM, Pd.varM, Pd.liftO, Pd.isiD, Pd.tyOfD, Pd.asB, Pd.notV, Pd.chainM, Pd.op2M, Pd.leD, Pd.ltD, Pd.gtD, Pd.geD, Pd.intD, Pd.retM, Pd.outOf, Pd.ownAt, Pd.bltM, Pd.vals, Pd.lenD, Pd.consM, Pd.callM, Pd.ownSlots, Pd.svsOf, Pd.svOf, Pd.setOwn, Pd.nxS, Pd.setM, isOwn_zero, isOwn_succ, isOwn_nil, isOD_zero, isOD_succ, isOD_nil, ownB_free, mrg_free, Pd.wipeE, mergeE_nil, mergeE_cons, Pd.fldM, Pd.fldOf, fl_rooms, fl_sizes, fl_zones, fl_far, fl_alive, fl_apart, Pd.siM, Pd.seqOf, Pd.asgS, Pd.setS, Pd.dropS, ↓seq_tupI]) ⟨z7, z8, z9, z10, z11, n7, n8, n9, n10, n11, by simp⟩ (fun done m rest env hd hp => by
      obtain ⟨w7, w8, w9, w10, w11, k7, k8, k9, k10, k11, rfl⟩ := hp
      have hmm : m ∈ ms := by rw [← hd]; simp
      have hdl : done.length ≤ 3 := by
        have h2 := congrArg List.length hd
        rw [List.length_append, List.length_cons] at h2
        omega
      have hCl : (C ++ done.flatMap fun src => (ns c.rooms.length).flatMap fun t => cop1 c p sh src t).length ≤ 1010 := by
        have h1 := flat_len (fun src => (ns c.rooms.length).flatMap fun t => cop1 c p sh src t) 3 done fun src _ => by
          have := flat_len (fun t => cop1 c p sh src t) 1 (ns c.rooms.length) fun t _ => cop1_len c p sh src t
          rw [ns_len] at this
          omega
        rw [List.length_append]; omega
      have hDl : (D ++ done.flatMap fun m => drp1 c p sh m).length ≤ 1010 := by
        have h1 := flat_len (fun m => drp1 c p sh m) 1 done fun m _ => drp1_len c p sh m
        rw [List.length_append]; omega
      have ecop : (done ++ [m]).flatMap (fun src => (ns c.rooms.length).flatMap fun t => cop1 c p sh src t) = (done.flatMap fun src => (ns c.rooms.length).flatMap fun t => cop1 c p sh src t) ++ (ns c.rooms.length).flatMap fun t => cop1 c p sh m t := by simp
      have edrp : (done ++ [m]).flatMap (fun m => drp1 c p sh m) = (done.flatMap fun m => drp1 c p sh m) ++ drp1 c p sh m := by simp
      rw [ecop, edrp, ← List.append_assoc, ← List.append_assoc]
      generalize hC' : (C ++ done.flatMap fun src => (ns c.rooms.length).flatMap fun t => cop1 c p sh src t) = C' at *
      generalize hD' : (D ++ done.flatMap fun m => drp1 c p sh m) = D' at *
      obtain ⟨v8, v9, v10, f8, f9, f10, hb⟩ := copies_one A c hc hF p h hable hm hmm C' (D'.map (eL c)) w8 w9 w10 w11 k8 k9 k10 k11 (by omega)
      have hs : setM 7 (.da (.int m)) [some (.obj A.C (fl c)), some (.da (eP p)), some able, some (.own (C'.map (eL c))), some (.own (D'.map (eL c))), some (.da (.int sh)), some (.da (tupI ms)), w7, w8, w9, w10, w11, none] =
          some (.ok () [some (.obj A.C (fl c)), some (.da (eP p)), some able, some (.own (C'.map (eL c))), some (.own (D'.map (eL c))), some (.da (.int sh)), some (.da (tupI ms)), some (.da (.int m)), w8, w9, w10, w11, none]) := by subst hable; simp [Pd.runN, Pd.runF, Pd.seqS, Pd.ifS, Pd.retS, Pd.withE, Pd.andV, Pd.orV, Pd.boolM, Pd.notM, Pd.andM, Pd.orM, Pd.ifM, Pd.isiM, Pd.bindM, Pd.varM, Pd.liftO, Pd.isiD, Pd.tyOfD, Pd.asB, Pd.notV, Pd.chainM, Pd.op2M, Pd.leD, Pd.ltD, Pd.gtD, Pd.geD, Pd.intD, Pd.retM, Pd.outOf, Pd.ownAt, Pd.bltM, Pd.vals, Pd.lenD, Pd.consM, Pd.callM, Pd.ownSlots, Pd.svsOf, Pd.svOf, Pd.setOwn, Pd.nxS, Pd.setM, isOwn_zero, isOwn_succ, isOwn_nil, isOD_zero, isOD_succ, isOD_nil, ownB_free, mrg_free, Pd.wipeE, mergeE_nil, mergeE_cons, Pd.fldM, Pd.fldOf, fl_rooms, fl_sizes, fl_zones, fl_far, fl_alive, fl_apart, Pd.siM, Pd.seqOf, Pd.asgS, Pd.setS, Pd.dropS, k7]
      generalize hC2 : (C' ++ (ns c.rooms.length).flatMap fun t => cop1 c p sh m t) = C2 at *
      have hDl2 : D'.length < LIM := by unfold LIM; omega
      have w1 : c1__law_moves A [some (.obj A.C (fl c)), some (.da (eP p)), some able, some (.own (C2.map (eL c))), some (.own (D'.map (eL c))), some (.da (.int sh)), some (.da (tupI ms)), some (.da (.int m)), v8, v9, v10, w11, none] =
          some (.ok (.da (.list ((ms.filter fun x => decide (x ≠ m)).map .int))) [some (.obj A.C (fl c)), some (.da (eP p)), some able, some (.own (C2.map (eL c))), some (.own (D'.map (eL c))), some (.da (.int sh)), some (.da (tupI ms)), some (.da (.int m)), v8, v9, v10, w11, none]) := by
        subst hable
        unfold c1__law_moves
        rw [lcM_tl PyData.int (l := ms) (fun x => if decide (x ≠ m) = true then some (.int x) else none) (by simp [Pd.runN, Pd.runF, Pd.seqS, Pd.ifS, Pd.retS, Pd.withE, Pd.andV, Pd.orV, Pd.boolM, Pd.notM, Pd.andM, Pd.orM, Pd.ifM, Pd.isiM, Pd.bindM, Pd.varM, Pd.liftO, Pd.isiD, Pd.tyOfD, Pd.asB, Pd.notV, Pd.chainM, Pd.op2M, Pd.leD, Pd.ltD, Pd.gtD, Pd.geD, Pd.intD, Pd.retM, Pd.outOf, Pd.ownAt, Pd.bltM, Pd.vals, Pd.lenD, Pd.consM, Pd.callM, Pd.ownSlots, Pd.svsOf, Pd.svOf, Pd.setOwn, Pd.nxS, Pd.setM, isOwn_zero, isOwn_succ, isOwn_nil, isOD_zero, isOD_succ, isOD_nil, ownB_free, mrg_free, Pd.wipeE, mergeE_nil, mergeE_cons, Pd.fldM, Pd.fldOf, fl_rooms, fl_sizes, fl_zones, fl_far, fl_alive, fl_apart, Pd.siM, Pd.seqOf, Pd.asgS, Pd.setS, Pd.dropS, ↓seq_tupI]) (by unfold LIM; omega) (fun x hx => ?_), filterMap_ite]
        unfold stepV
        by_cases hx : x = m <;> simp [Pd.runN, Pd.runF, Pd.seqS, Pd.ifS, Pd.retS, Pd.withE, Pd.andV, Pd.orV, Pd.boolM, Pd.notM, Pd.andM, Pd.orM, Pd.ifM, Pd.isiM, Pd.bindM, Pd.varM, Pd.liftO, Pd.isiD, Pd.tyOfD, Pd.asB, Pd.notV, Pd.chainM, Pd.op2M, Pd.leD, Pd.ltD, Pd.gtD, Pd.geD, Pd.intD, Pd.retM, Pd.outOf, Pd.ownAt, Pd.bltM, Pd.vals, Pd.lenD, Pd.consM, Pd.callM, Pd.ownSlots, Pd.svsOf, Pd.svOf, Pd.setOwn, Pd.nxS, Pd.setM, isOwn_zero, isOwn_succ, isOwn_nil, isOD_zero, isOD_succ, isOD_nil, ownB_free, mrg_free, Pd.wipeE, mergeE_nil, mergeE_cons, Pd.fldM, Pd.fldOf, fl_rooms, fl_sizes, fl_zones, fl_far, fl_alive, fl_apart, Pd.siM, Pd.seqOf, Pd.asgS, Pd.setS, Pd.dropS, neD_int', hx, f8, f9, f10, k11]
      have ha := filter_asc (fun x => decide (x ≠ m)) (hw.asc ms hmem)
      have vw := v_law_with A p sh (.list ((ms.filter fun x => decide (x ≠ m)).map .int)) (ms.filter fun x => decide (x ≠ m)) (.inr rfl) (by omega)
      rw [isort_pw (asc_pw ha)] at vw
      have ix := ix_eP (wi_get (p := p) (ms := ms.filter fun x => decide (x ≠ m)) hlt)
      have inl := encI.inL false (ms.filter fun x => decide (x ≠ m)) (ch c)
      have hr := drR_law hc h hm hmm
      generalize hX : (ms.filter fun x => decide (x ≠ m)) = X at *
      subst hable
      by_cases h2 : X ∈ ch c
      · have e1 : drp1 c p sh m = [(Stp.dp sh m, wi p sh X)] := by unfold drp1; rw [hr, if_pos h2]; rfl
        have hp0 : eL c (Stp.dp sh m, wi p sh X) = .tuple [.tuple [.str "drop", .int sh, .int m], eP (wi p sh X), .int 1] := rfl
        refine ⟨_, [some (.obj A.C (fl c)), some (.da (eP p)), some (.da (.list ((ch c).map tupI))), some (.own (C2.map (eL c))), some (.own ((D' ++ drp1 c p sh m).map (eL c))), some (.da (.int sh)), some (.da (tupI ms)), some (.da (.int m)), v8, some (.da (eP (wi p sh X))), v10, some (.da (.list (X.map .int))), none], hs, .inl ?_, some (.da (.int m)), v8, some (.da (eP (wi p sh X))), v10, some (.da (.list (X.map .int))), rfl, f8, rfl, f10, rfl, rfl⟩
        rw [e1, ← snoc_eL, hp0]
        simp [Pd.runN, Pd.runF, Pd.seqS, Pd.ifS, Pd.retS, Pd.withE, Pd.andV, Pd.orV, Pd.boolM, Pd.notM, Pd.andM, Pd.orM, Pd.ifM, Pd.isiM, Pd.bindM, Pd.varM, Pd.liftO, Pd.isiD, Pd.tyOfD, Pd.asB, Pd.notV, Pd.chainM, Pd.op2M, Pd.leD, Pd.ltD, Pd.gtD, Pd.geD, Pd.intD, Pd.retM, Pd.outOf, Pd.ownAt, Pd.bltM, Pd.vals, Pd.lenD, Pd.consM, Pd.callM, Pd.ownSlots, Pd.svsOf, Pd.svOf, Pd.setOwn, Pd.nxS, Pd.setM, isOwn_zero, isOwn_succ, isOwn_nil, isOD_zero, isOD_succ, isOD_nil, ownB_free, mrg_free, Pd.wipeE, mergeE_nil, mergeE_cons, Pd.fldM, Pd.fldOf, fl_rooms, fl_sizes, fl_zones, fl_far, fl_alive, fl_apart, Pd.siM, Pd.seqOf, Pd.asgS, Pd.setS, Pd.dropS, hb, w1, k11, vw, f9, ix, inl, h2, tupM, datas, appS, hDl2]
      · have e1 : drp1 c p sh m = [] := by unfold drp1; rw [hr, if_neg h2]; rfl
        rw [e1, List.append_nil]
        refine ⟨_, [some (.obj A.C (fl c)), some (.da (eP p)), some (.da (.list ((ch c).map tupI))), some (.own (C2.map (eL c))), some (.own (D'.map (eL c))), some (.da (.int sh)), some (.da (tupI ms)), some (.da (.int m)), v8, some (.da (eP (wi p sh X))), v10, some (.da (.list (X.map .int))), none], hs, .inl ?_, some (.da (.int m)), v8, some (.da (eP (wi p sh X))), v10, some (.da (.list (X.map .int))), rfl, f8, rfl, f10, rfl, rfl⟩
        simp [Pd.runN, Pd.runF, Pd.seqS, Pd.ifS, Pd.retS, Pd.withE, Pd.andV, Pd.orV, Pd.boolM, Pd.notM, Pd.andM, Pd.orM, Pd.ifM, Pd.isiM, Pd.bindM, Pd.varM, Pd.liftO, Pd.isiD, Pd.tyOfD, Pd.asB, Pd.notV, Pd.chainM, Pd.op2M, Pd.leD, Pd.ltD, Pd.gtD, Pd.geD, Pd.intD, Pd.retM, Pd.outOf, Pd.ownAt, Pd.bltM, Pd.vals, Pd.lenD, Pd.consM, Pd.callM, Pd.ownSlots, Pd.svsOf, Pd.svOf, Pd.setOwn, Pd.nxS, Pd.setM, isOwn_zero, isOwn_succ, isOwn_nil, isOD_zero, isOD_succ, isOD_nil, ownB_free, mrg_free, Pd.wipeE, mergeE_nil, mergeE_cons, Pd.fldM, Pd.fldOf, fl_rooms, fl_sizes, fl_zones, fl_far, fl_alive, fl_apart, Pd.siM, Pd.seqOf, Pd.asgS, Pd.setS, Pd.dropS, hb, w1, k11, vw, f9, ix, inl, h2])
  exact ⟨w7, w8, w9, w10, w11, k7, k8, k9, k10, k11, h1⟩
theorem v_law_moves : F__law_moves A [.obj A.C (fl c), .da (eP p)] = some (.ret (.da (.list ((mvs c p).map (eL c)))) []) := by
  have hw := h.wild hc
  have hpl : p.length ≤ 3 := by rw [h.len]; exact hc.sl.2
  have hrl := hc.rl
  have hvc := v_law_choices A c hc
  generalize hable : SV.da (.list ((ch c).map tupI)) = able at *
  have loop : ∃ w5 w6 w7 w8 w9 w10 w11, free w5 = true ∧ free w6 = true ∧ free w7 = true ∧ free w8 = true ∧ free w9 = true ∧ free w10 = true ∧ free w11 = true ∧ c3__law_moves A [some (.obj A.C (fl c)), some (.da (eP p)), some able, some (.own []), some (.own []), none, none, none, none, none, none, none, none] =
      some (.nx [some (.obj A.C (fl c)), some (.da (eP p)), some able, some (.own (((en p).flatMap fun q => cop c p q.1 q.2).map (eL c))), some (.own (((en p).flatMap fun q => drp c p q.1 q.2).map (eL c))), w5, w6, w7, w8, w9, w10, w11, none]) := by
    obtain ⟨e, h1, w5, w6, w7, w8, w9, w10, w11, k5, k6, k7, k8, k9, k10, k11, rfl⟩ := forS_inv (fun q : Nat × List Int => PyData.tuple [.int q.1, tupI q.2]) (fi := eiM (consM (varM 1) (retM []))) (g := tupG 2 (consG (setM 5) (consG (setM 6) nilG))) (body := c2__law_moves A)
      (l := en p) (env := [some (.obj A.C (fl c)), some (.da (eP p)), some able, some (.own []), some (.own []), none, none, none, none, none, none, none, none])
      (fun done e => ∃ w5 w6 w7 w8 w9 w10 w11, free w5 = true ∧ free w6 = true ∧ free w7 = true ∧ free w8 = true ∧ free w9 = true ∧ free w10 = true ∧ free w11 = true ∧ e = [some (.obj A.C (fl c)), some (.da (eP p)), some able, some (.own ((done.flatMap fun q => cop c p q.1 q.2).map (eL c))), some (.own ((done.flatMap fun q => drp c p q.1 q.2).map (eL c))), w5, w6, w7, w8, w9, w10, w11, none])
      (by have := enumL_en p; subst hable; simp [Pd.runN, Pd.runF, Pd.seqS, Pd.ifS, Pd.retS, Pd.withE, Pd.andV, Pd.orV, Pd.boolM, Pd.notM, Pd.andM, Pd.orM, Pd.ifM, Pd.isiM, Pd.bindM, Pd.varM, Pd.liftO, Pd.isiD, Pd.tyOfD, Pd.asB, Pd.notV, Pd.chainM, Pd.op2M, Pd.leD, Pd.ltD, Pd.gtD, Pd.geD, Pd.intD, Pd.retM, Pd.outOf, Pd.ownAt, Pd.bltM, Pd.vals, Pd.lenD, Pd.consM, Pd.callM, Pd.ownSlots, Pd.svsOf, Pd.svOf, Pd.setOwn, Pd.nxS, Pd.setM, isOwn_zero, isOwn_succ, isOwn_nil, isOD_zero, isOD_succ, isOD_nil, ownB_free, mrg_free, Pd.wipeE, mergeE_nil, mergeE_cons, Pd.fldM, Pd.fldOf, fl_rooms, fl_sizes, fl_zones, fl_far, fl_alive, fl_apart, Pd.siM, Pd.seqOf, Pd.asgS, Pd.setS, Pd.dropS, eiM, ↓seq_eP, this]) ⟨none, none, none, none, none, none, none, rfl, rfl, rfl, rfl, rfl, rfl, rfl, by simp⟩ (fun done q rest env hd hp => by
        obtain ⟨w5, w6, w7, w8, w9, w10, w11, k5, k6, k7, k8, k9, k10, k11, rfl⟩ := hp
        obtain ⟨sh, ms⟩ := q
        have hq : (sh, ms) ∈ en p := by rw [← hd]; simp
        have hget : p[sh]? = some ms := en_get hq
        have hdl : done.length ≤ 3 := by
          have h := congrArg List.length hd
          rw [en_len, List.length_append, List.length_cons] at h
          omega
        have hdb : (done.flatMap fun q => cop c p q.1 q.2).length ≤ 27 := by
          have := flat_len (fun q : Nat × List Int => cop c p q.1 q.2) 9 done fun x hx => by
            have h1 := cop_len c p x.1 x.2
            have h2 := hw.m3 (en_mem (q := x) (by rw [← hd]; exact List.mem_append_left _ hx)) hc
            have := Nat.mul_le_mul h2 hrl.2
            omega
          omega
        have hdb2 : (done.flatMap fun q => drp c p q.1 q.2).length ≤ 9 := by
          have := flat_len (fun q : Nat × List Int => drp c p q.1 q.2) 3 done fun x hx => by
            have h1 := drp_len c p x.1 x.2
            have h2 := hw.m3 (en_mem (q := x) (by rw [← hd]; exact List.mem_append_left _ hx)) hc
            omega
          omega
        obtain ⟨v7, v8, v9, v10, v11, f7, f8, f9, f10, f11, hb⟩ := shard_one A c hc hF p h hable.symm hget (done.flatMap fun q => cop c p q.1 q.2) (done.flatMap fun q => drp c p q.1 q.2) w7 w8 w9 w10 w11 k7 k8 k9 k10 k11 (by omega) (by omega)
        refine ⟨_, _, ?_, .inl hb, some (.da (.int sh)), some (.da (tupI ms)), v7, v8, v9, v10, v11, rfl, rfl, f7, f8, f9, f10, f11, by simp⟩
        subst hable
        simp [Pd.runN, Pd.runF, Pd.seqS, Pd.ifS, Pd.retS, Pd.withE, Pd.andV, Pd.orV, Pd.boolM, Pd.notM, Pd.andM, Pd.orM, Pd.ifM, Pd.isiM, Pd.bindM, Pd.varM, Pd.liftO, Pd.isiD, Pd.tyOfD, Pd.asB, Pd.notV, Pd.chainM, Pd.op2M, Pd.leD, Pd.ltD, Pd.gtD, Pd.geD, Pd.intD, Pd.retM, Pd.outOf, Pd.ownAt, Pd.bltM, Pd.vals, Pd.lenD, Pd.consM, Pd.callM, Pd.ownSlots, Pd.svsOf, Pd.svOf, Pd.setOwn, Pd.nxS, Pd.setM, isOwn_zero, isOwn_succ, isOwn_nil, isOD_zero, isOD_succ, isOD_nil, ownB_free, mrg_free, Pd.wipeE, mergeE_nil, mergeE_cons, Pd.fldM, Pd.fldOf, fl_rooms, fl_sizes, fl_zones, fl_far, fl_alive, fl_apart, Pd.siM, Pd.seqOf, Pd.asgS, Pd.setS, Pd.dropS, tupG, consG, nilG, k5, k6])
    exact ⟨w5, w6, w7, w8, w9, w10, w11, k5, k6, k7, k8, k9, k10, k11, h1⟩
  obtain ⟨w5, w6, w7, w8, w9, w10, w11, k5, k6, k7, k8, k9, k10, k11, hloop⟩ := loop
  have hb1 : ((en p).flatMap fun q => cop c p q.1 q.2).length ≤ 27 := by
    have := flat_len (fun q : Nat × List Int => cop c p q.1 q.2) 9 (en p) fun x hx => by
      have h1 := cop_len c p x.1 x.2
      have h2 := hw.m3 (en_mem hx) hc
      have := Nat.mul_le_mul h2 hrl.2
      omega
    rw [en_len] at this
    omega
  have hb2 : ((en p).flatMap fun q => drp c p q.1 q.2).length ≤ 9 := by
    have := flat_len (fun q : Nat × List Int => drp c p q.1 q.2) 3 (en p) fun x hx => by
      have h1 := drp_len c p x.1 x.2
      have h2 := hw.m3 (en_mem hx) hc
      omega
    rw [en_len] at this
    omega
  unfold F__law_moves g__law_moves mvs
  generalize ((en p).flatMap fun q => cop c p q.1 q.2) = C at *
  generalize ((en p).flatMap fun q => drp c p q.1 q.2) = D at *
  have hb : C.length + D.length ≤ LIM := by unfold LIM; omega
  subst hable
  simp [Pd.runN, Pd.runF, Pd.seqS, Pd.ifS, Pd.retS, Pd.withE, Pd.andV, Pd.orV, Pd.boolM, Pd.notM, Pd.andM, Pd.orM, Pd.ifM, Pd.isiM, Pd.bindM, Pd.varM, Pd.liftO, Pd.isiD, Pd.tyOfD, Pd.asB, Pd.notV, Pd.chainM, Pd.op2M, Pd.leD, Pd.ltD, Pd.gtD, Pd.geD, Pd.intD, Pd.retM, Pd.outOf, Pd.ownAt, Pd.bltM, Pd.vals, Pd.lenD, Pd.consM, Pd.callM, Pd.ownSlots, Pd.svsOf, Pd.svOf, Pd.setOwn, Pd.nxS, Pd.setM, isOwn_zero, isOwn_succ, isOwn_nil, isOD_zero, isOD_succ, isOD_nil, ownB_free, mrg_free, Pd.wipeE, mergeE_nil, mergeE_cons, Pd.fldM, Pd.fldOf, fl_rooms, fl_sizes, fl_zones, fl_far, fl_alive, fl_apart, Pd.siM, Pd.seqOf, Pd.asgS, Pd.setS, Pd.dropS, parOS, hvc, hloop, frzS, addD, hb]
end
end K01
end
section
set_option Elab.async false
set_option linter.all false
set_option maxRecDepth 100000
set_option maxHeartbeats 1000000
namespace K01
open PySem Pd
/-! ### given steps -/
def InS (c : Cl) : Stp → Prop
  | .cp sh a b => sh < c.sizes.length ∧ inR c a ∧ inR c b
  | .dp sh m => sh < c.sizes.length ∧ inR c m
def pa (c : Cl) (p : P') : Stp → Option P'
  | .cp sh a b => if a ∈ msOf p sh then cpR c p sh b else none
  | .dp sh m => drR c p sh m
theorem sh_copy : SeqAt.shaped (.str "copy") = true := by decide +kernel
theorem sh_drop : SeqAt.shaped (.str "drop") = true := by decide +kernel
theorem st_cd : ((("copy" : Str)) == ("drop" : Str)) = false := by decide +kernel
theorem st_dd : ((("drop" : Str)) == ("drop" : Str)) = true := by decide +kernel
theorem st_cc : ((("copy" : Str)) == ("copy" : Str)) = true := by decide +kernel
theorem eq_cd : eqD (.da (.str "copy")) (.da (.str "drop")) = some (.da (.bool false)) := by simp only [eqD, sh_copy, sh_drop, PyData.eqv, st_cd, Bool.and_self, if_true]
theorem eq_dd : eqD (.da (.str "drop")) (.da (.str "drop")) = some (.da (.bool true)) := by simp only [eqD, sh_drop, PyData.eqv, st_dd, Bool.and_self, if_true]
theorem ne_cc : neD (.da (.str "copy")) (.da (.str "copy")) = some (.da (.bool false)) := by simp only [neD, sh_copy, PyData.eqv, st_cc, Bool.and_self, if_true, Bool.not_true]
theorem ne_dd : neD (.da (.str "drop")) (.da (.str "drop")) = some (.da (.bool false)) := by simp only [neD, sh_drop, PyData.eqv, st_dd, Bool.and_self, if_true, Bool.not_true]
theorem kb4 : L2.kitB "str" "str" = some true := by rfl
theorem v_check_placing (A : Ads) (c : Cl) (hc : OkC c) (p : P') (h : Pl c p) : F_check_placing A [.obj A.C (fl c), .da (eP p)] = some (.ret (.da .none) []) := by
  have := v_is_placing A c p hc (h.wild hc)
  rw [h.isP] at this
  unfold F_check_placing g_check_placing
  simp [Pd.runN, Pd.runF, Pd.seqS, Pd.ifS, Pd.retS, Pd.withE, Pd.andV, Pd.orV, Pd.boolM, Pd.notM, Pd.andM, Pd.orM, Pd.ifM, Pd.isiM, Pd.bindM, Pd.varM, Pd.liftO, Pd.isiD, Pd.tyOfD, Pd.asB, Pd.notV, Pd.chainM, Pd.op2M, Pd.leD, Pd.ltD, Pd.gtD, Pd.geD, Pd.intD, Pd.retM, Pd.outOf, Pd.ownAt, Pd.bltM, Pd.vals, Pd.lenD, Pd.consM, Pd.callM, Pd.ownSlots, Pd.svsOf, Pd.svOf, Pd.setOwn, Pd.nxS, Pd.setM, isOwn_zero, isOwn_succ, isOwn_nil, isOD_zero, isOD_succ, isOD_nil, ownB_free, mrg_free, Pd.wipeE, mergeE_nil, mergeE_cons, Pd.fldM, Pd.fldOf, fl_rooms, fl_sizes, fl_zones, fl_far, fl_alive, fl_apart, Pd.siM, Pd.seqOf, Pd.asgS, Pd.setS, Pd.dropS, this]
theorem v_loads (A : Ads) (c : Cl) (hc : OkC c) (p : P') (h : Pl c p) : F_loads A [.obj A.C (fl c), .da (eP p)] = some (.ret (.da (.list ((loads c p).map .int))) []) := by
  have h1 := v_check_placing A c hc p h
  have h2 : F_held A [.obj A.C (fl c), .da (eP p)] = some (.ret (.da (.list ((loads c p).map .int))) []) := v_held A c p (h.wild hc).ok (by have := hc.rl; omega)
  unfold F_loads g_loads
  simp [Pd.runN, Pd.runF, Pd.seqS, Pd.ifS, Pd.retS, Pd.withE, Pd.andV, Pd.orV, Pd.boolM, Pd.notM, Pd.andM, Pd.orM, Pd.ifM, Pd.isiM, Pd.bindM, Pd.varM, Pd.liftO, Pd.isiD, Pd.tyOfD, Pd.asB, Pd.notV, Pd.chainM, Pd.op2M, Pd.leD, Pd.ltD, Pd.gtD, Pd.geD, Pd.intD, Pd.retM, Pd.outOf, Pd.ownAt, Pd.bltM, Pd.vals, Pd.lenD, Pd.consM, Pd.callM, Pd.ownSlots, Pd.svsOf, Pd.svOf, Pd.setOwn, Pd.nxS, Pd.setM, isOwn_zero, isOwn_succ, isOwn_nil, isOD_zero, isOD_succ, isOD_nil, ownB_free, mrg_free, Pd.wipeE, mergeE_nil, mergeE_cons, Pd.fldM, Pd.fldOf, fl_rooms, fl_sizes, fl_zones, fl_far, fl_alive, fl_apart, Pd.siM, Pd.seqOf, Pd.asgS, Pd.setS, Pd.dropS, h1, h2]
theorem v_steps (A : Ads) (c : Cl) (hc : OkC c) (p : P') (h : Pl c p) (hb : (mvs c p).length ≤ LIM) : F_steps A [.obj A.C (fl c), .da (eP p)] = some (.ret (.da (.list ((mvs c p).map fun r => eS r.1))) []) := by
  have h1 := v_check_placing A c hc p h
  have h2 := v_moves A c hc p (h.wild hc)
  have w : c0_steps A [some (.obj A.C (fl c)), some (.da (eP p)), none, none] = some (.ok (.da (.list ((mvs c p).map fun r => eS r.1))) [some (.obj A.C (fl c)), some (.da (eP p)), none, none]) := by
    unfold c0_steps
    rw [lcM_tl eM (l := mvs c p) (fun r => some (eS r.1)) (by simp [Pd.runN, Pd.runF, Pd.seqS, Pd.ifS, Pd.retS, Pd.withE, Pd.andV, Pd.orV, Pd.boolM, Pd.notM, Pd.andM, Pd.orM, Pd.ifM, Pd.isiM, Pd.bindM, Pd.varM, Pd.liftO, Pd.isiD, Pd.tyOfD, Pd.asB, Pd.notV, Pd.chainM, Pd.op2M, Pd.leD, Pd.ltD, Pd.gtD, Pd.geD, Pd.intD, Pd.retM, Pd.outOf, Pd.ownAt, Pd.bltM, Pd.vals, Pd.lenD, Pd.consM, Pd.callM, Pd.ownSlots, Pd.svsOf, Pd.svOf, Pd.setOwn, Pd.nxS, Pd.setM, isOwn_zero, isOwn_succ, isOwn_nil, isOD_zero, isOD_succ, isOD_nil, ownB_free, mrg_free, Pd.wipeE, mergeE_nil, mergeE_cons, Pd.fldM, Pd.fldOf, fl_rooms, fl_sizes, fl_zones, fl_far, fl_alive, fl_apart, Pd.siM, Pd.seqOf, Pd.asgS, Pd.setS, Pd.dropS, h2]) hb (fun r hr => ?_), filterMap_some]
    unfold stepV eM
    simp [Pd.runN, Pd.runF, Pd.seqS, Pd.ifS, Pd.retS, Pd.withE, Pd.andV, Pd.orV, Pd.boolM, Pd.notM, Pd.andM, Pd.orM, Pd.ifM, Pd.isiM, Pd.bindM, Pd.varM, Pd.liftO, Pd.isiD, Pd.tyOfD, Pd.asB, Pd.notV, Pd.chainM, Pd.op2M, Pd.leD, Pd.ltD, Pd.gtD, Pd.geD, Pd.intD, Pd.retM, Pd.outOf, Pd.ownAt, Pd.bltM, Pd.vals, Pd.lenD, Pd.consM, Pd.callM, Pd.ownSlots, Pd.svsOf, Pd.svOf, Pd.setOwn, Pd.nxS, Pd.setM, isOwn_zero, isOwn_succ, isOwn_nil, isOD_zero, isOD_succ, isOD_nil, ownB_free, mrg_free, Pd.wipeE, mergeE_nil, mergeE_cons, Pd.fldM, Pd.fldOf, fl_rooms, fl_sizes, fl_zones, fl_far, fl_alive, fl_apart, Pd.siM, Pd.seqOf, Pd.asgS, Pd.setS, Pd.dropS, tupG, consG, nilG]
  unfold F_steps g_steps
  simp [Pd.runN, Pd.runF, Pd.seqS, Pd.ifS, Pd.retS, Pd.withE, Pd.andV, Pd.orV, Pd.boolM, Pd.notM, Pd.andM, Pd.orM, Pd.ifM, Pd.isiM, Pd.bindM, Pd.varM, Pd.liftO, Pd.isiD, Pd.tyOfD, Pd.asB, Pd.notV, Pd.chainM, Pd.op2M, Pd.leD, Pd.ltD, Pd.gtD, Pd.geD, Pd.intD, Pd.retM, Pd.outOf, Pd.ownAt, Pd.bltM, Pd.vals, Pd.lenD, Pd.consM, Pd.callM, Pd.ownSlots, Pd.svsOf, Pd.svOf, Pd.setOwn, Pd.nxS, Pd.setM, isOwn_zero, isOwn_succ, isOwn_nil, isOD_zero, isOD_succ, isOD_nil, ownB_free, mrg_free, Pd.wipeE, mergeE_nil, mergeE_cons, Pd.fldM, Pd.fldOf, fl_rooms, fl_sizes, fl_zones, fl_far, fl_alive, fl_apart, Pd.siM, Pd.seqOf, Pd.asgS, Pd.setS, Pd.dropS, h1, w]
theorem v_has_form (A : Ads) (c : Cl) (hc : OkC c) (s : Stp) (hs : InS c s) : F_has_form A [.obj A.C (fl c), .da (eS s)] = some (.ret (.da (.bool true)) []) := by
  have w : ∀ (y : SV) (l : List Int), l.length ≤ 5 → sliceD y (some 2) none = some (.da (.tuple (l.map .int))) → (∃ d, y = .da d) → c0_has_form A [some (.obj A.C (fl c)), some y, none] = some (.ok (.da (.list (l.map fun m => .bool (numOk 0 ((c.rooms.length : Int) - 1) (.int m))))) [some (.obj A.C (fl c)), some y, none]) := fun y l hl hy hd => by
    obtain ⟨d, rfl⟩ := hd
    unfold c0_has_form
    rw [lcM_tl PyData.int (l := l) (fun m => some (.bool (numOk 0 ((c.rooms.length : Int) - 1) (.int m)))) (by simp [Pd.runN, Pd.runF, Pd.seqS, Pd.ifS, Pd.retS, Pd.withE, Pd.andV, Pd.orV, Pd.boolM, Pd.notM, Pd.andM, Pd.orM, Pd.ifM, Pd.isiM, Pd.bindM, Pd.varM, Pd.liftO, Pd.isiD, Pd.tyOfD, Pd.asB, Pd.notV, Pd.chainM, Pd.op2M, Pd.leD, Pd.ltD, Pd.gtD, Pd.geD, Pd.intD, Pd.retM, Pd.outOf, Pd.ownAt, Pd.bltM, Pd.vals, Pd.lenD, Pd.consM, Pd.callM, Pd.ownSlots, Pd.svsOf, Pd.svOf, Pd.setOwn, Pd.nxS, Pd.setM, isOwn_zero, isOwn_succ, isOwn_nil, isOD_zero, isOD_succ, isOD_nil, ownB_free, mrg_free, Pd.wipeE, mergeE_nil, mergeE_cons, Pd.fldM, Pd.fldOf, fl_rooms, fl_sizes, fl_zones, fl_far, fl_alive, fl_apart, Pd.siM, Pd.seqOf, Pd.asgS, Pd.setS, Pd.dropS, sliceM, partM, asI, hy]) (by unfold LIM; omega) (fun m hm => ?_), filterMap_some]
    have := v_is_number A (.int m) 0 ((c.rooms.length : Int) - 1)
    unfold stepV
    simp [Pd.runN, Pd.runF, Pd.seqS, Pd.ifS, Pd.retS, Pd.withE, Pd.andV, Pd.orV, Pd.boolM, Pd.notM, Pd.andM, Pd.orM, Pd.ifM, Pd.isiM, Pd.bindM, Pd.varM, Pd.liftO, Pd.isiD, Pd.tyOfD, Pd.asB, Pd.notV, Pd.chainM, Pd.op2M, Pd.leD, Pd.ltD, Pd.gtD, Pd.geD, Pd.intD, Pd.retM, Pd.outOf, Pd.ownAt, Pd.bltM, Pd.vals, Pd.lenD, Pd.consM, Pd.callM, Pd.ownSlots, Pd.svsOf, Pd.svOf, Pd.setOwn, Pd.nxS, Pd.setM, isOwn_zero, isOwn_succ, isOwn_nil, isOD_zero, isOD_succ, isOD_nil, ownB_free, mrg_free, Pd.wipeE, mergeE_nil, mergeE_cons, Pd.fldM, Pd.fldOf, fl_rooms, fl_sizes, fl_zones, fl_far, fl_alive, fl_apart, Pd.siM, Pd.seqOf, Pd.asgS, Pd.setS, Pd.dropS, this]
  cases s with
  | cp sh a b =>
    obtain ⟨h1, h2, h3⟩ := hs
    have w1 := w (.da (eS (.cp sh a b))) [a, b] (by simp) (by rfl) ⟨_, rfl⟩
    have n1 := v_is_number A (.int sh) 0 ((c.sizes.length : Int) - 1)
    have e1 : numOk 0 ((c.sizes.length : Int) - 1) (.int sh) = true := by simp [numOk]; omega
    have e2 : numOk 0 ((c.rooms.length : Int) - 1) (.int a) = true := by have := h2.1; have := h2.2; simp [numOk]; omega
    have e3 : numOk 0 ((c.rooms.length : Int) - 1) (.int b) = true := by have := h3.1; have := h3.2; simp [numOk]; omega
    rw [e1] at n1
    unfold eS at w1 ⊢
    simp only [List.map_cons, List.map_nil, e2, e3] at w1
    unfold F_has_form g_has_form
    simp [Pd.runN, Pd.runF, Pd.seqS, Pd.ifS, Pd.retS, Pd.withE, Pd.andV, Pd.orV, Pd.boolM, Pd.notM, Pd.andM, Pd.orM, Pd.ifM, Pd.isiM, Pd.bindM, Pd.varM, Pd.liftO, Pd.isiD, Pd.tyOfD, Pd.asB, Pd.notV, Pd.chainM, Pd.op2M, Pd.leD, Pd.ltD, Pd.gtD, Pd.geD, Pd.intD, Pd.retM, Pd.outOf, Pd.ownAt, Pd.bltM, Pd.vals, Pd.lenD, Pd.consM, Pd.callM, Pd.ownSlots, Pd.svsOf, Pd.svOf, Pd.setOwn, Pd.nxS, Pd.setM, isOwn_zero, isOwn_succ, isOwn_nil, isOD_zero, isOD_succ, isOD_nil, ownB_free, mrg_free, Pd.wipeE, mergeE_nil, mergeE_cons, Pd.fldM, Pd.fldOf, fl_rooms, fl_sizes, fl_zones, fl_far, fl_alive, fl_apart, Pd.siM, Pd.seqOf, Pd.asgS, Pd.setS, Pd.dropS, kb3, kb4, ixD, L2.atI, L2.ixN, ne_cc, eqD_int, n1, w1, allD, boolsOf]
  | dp sh a =>
    obtain ⟨h1, h2⟩ := hs
    have w1 := w (.da (eS (.dp sh a))) [a] (by simp) (by rfl) ⟨_, rfl⟩
    have n1 := v_is_number A (.int sh) 0 ((c.sizes.length : Int) - 1)
    have e1 : numOk 0 ((c.sizes.length : Int) - 1) (.int sh) = true := by simp [numOk]; omega
    have e2 : numOk 0 ((c.rooms.length : Int) - 1) (.int a) = true := by have := h2.1; have := h2.2; simp [numOk]; omega
    rw [e1] at n1
    unfold eS at w1 ⊢
    simp only [List.map_cons, List.map_nil, e2] at w1
    unfold F_has_form g_has_form
    simp [Pd.runN, Pd.runF, Pd.seqS, Pd.ifS, Pd.retS, Pd.withE, Pd.andV, Pd.orV, Pd.boolM, Pd.notM, Pd.andM, Pd.orM, Pd.ifM, Pd.isiM, Pd.bindM, Pd.varM, Pd.liftO, Pd.isiD, Pd.tyOfD, Pd.asB, Pd.notV, Pd.chainM, Pd.op2M, Pd.leD, Pd.ltD, Pd.gtD, Pd.geD, Pd.intD, Pd.retM, Pd.outOf, Pd.ownAt, Pd.bltM, Pd.vals, Pd.lenD, Pd.consM, Pd.callM, Pd.ownSlots, Pd.svsOf, Pd.svOf, Pd.setOwn, Pd.nxS, Pd.setM, isOwn_zero, isOwn_succ, isOwn_nil, isOD_zero, isOD_succ, isOD_nil, ownB_free, mrg_free, Pd.wipeE, mergeE_nil, mergeE_cons, Pd.fldM, Pd.fldOf, fl_rooms, fl_sizes, fl_zones, fl_far, fl_alive, fl_apart, Pd.siM, Pd.seqOf, Pd.asgS, Pd.setS, Pd.dropS, kb3, kb4, ixD, L2.atI, L2.ixN, ne_dd, eqD_int, n1, w1, allD, boolsOf]
theorem get_ms {c : Cl} {p : P'} (h : Pl c p) {sh : Nat} (hs : sh < c.sizes.length) : ∃ ms, p[sh]? = some ms ∧ ms ∈ p := by
  have : sh < p.length := by rw [h.len]; exact hs
  exact ⟨p[sh], by simp [this], List.getElem_mem _⟩
theorem v_placing_after (A : Ads) (c : Cl) (hc : OkC c) (p : P') (h : Pl c p) (s : Stp) (hs : InS c s) : F_placing_after A [.obj A.C (fl c), .da (eP p), .da (eS s)] = some (.ret (.da (eO eP (pa c p s))) []) := by
  have hf := v_has_form A c hc s hs
  have hw := h.wild hc
  have hpl : p.length ≤ 3 := by rw [h.len]; exact hc.sl.2
  have hh : F_held A [.obj A.C (fl c), .da (eP p)] = some (.ret (.da (.list ((loads c p).map .int))) []) := v_held A c p hw.ok (by have := hc.rl; omega)
  cases s with
  | cp sh a b =>
    obtain ⟨h1, h2, h3⟩ := hs
    obtain ⟨ms, hm, hmem⟩ := get_ms h h1
    have e1 : msOf p sh = ms := by unfold msOf; rw [hm]; rfl
    have hm3 := hw.m3 hmem hc
    have hcp := v_copied A c hc p sh b ms (by omega) h1 hm (hw.inR hmem) (by omega) h3
    have epa : pa c p (.cp sh a b) = if a ∈ ms then cpR c p sh b else none := by rw [← e1]; rfl
    rw [epa]
    unfold eS at hf ⊢
    unfold F_placing_after g_placing_after
    have ix1 : ∀ (x y z w : PyData), ixD (.da (.tuple [x, y, z, w])) (.da (.int 1)) = some (.da y) := fun _ _ _ _ => rfl
    have ix2 : ∀ (x y z w : PyData), ixD (.da (.tuple [x, y, z, w])) (.da (.int 2)) = some (.da z) := fun _ _ _ _ => rfl
    have ix0 : ∀ (x y z w : PyData), ixD (.da (.tuple [x, y, z, w])) (.da (.int 0)) = some (.da x) := fun _ _ _ _ => rfl
    have ix3 : ∀ (x y z w : PyData), ixD (.da (.tuple [x, y, z, w])) (.da (.int (-1))) = some (.da w) := fun _ _ _ _ => rfl
    by_cases ha : a ∈ ms
    · simp [Pd.runN, Pd.runF, Pd.seqS, Pd.ifS, Pd.retS, Pd.withE, Pd.andV, Pd.orV, Pd.boolM, Pd.notM, Pd.andM, Pd.orM, Pd.ifM, Pd.isiM, Pd.bindM, Pd.varM, Pd.liftO, Pd.isiD, Pd.tyOfD, Pd.asB, Pd.notV, Pd.chainM, Pd.op2M, Pd.leD, Pd.ltD, Pd.gtD, Pd.geD, Pd.intD, Pd.retM, Pd.outOf, Pd.ownAt, Pd.bltM, Pd.vals, Pd.lenD, Pd.consM, Pd.callM, Pd.ownSlots, Pd.svsOf, Pd.svOf, Pd.setOwn, Pd.nxS, Pd.setM, isOwn_zero, isOwn_succ, isOwn_nil, isOD_zero, isOD_succ, isOD_nil, ownB_free, mrg_free, Pd.wipeE, mergeE_nil, mergeE_cons, Pd.fldM, Pd.fldOf, fl_rooms, fl_sizes, fl_zones, fl_far, fl_alive, fl_apart, Pd.siM, Pd.seqOf, Pd.asgS, Pd.setS, Pd.dropS, hf, parS, negM, asI, ix0, ix1, ix2, ix3, eq_cd, ix_eP hm, in_tupI, ha, hh, hcp]
    · simp [Pd.runN, Pd.runF, Pd.seqS, Pd.ifS, Pd.retS, Pd.withE, Pd.andV, Pd.orV, Pd.boolM, Pd.notM, Pd.andM, Pd.orM, Pd.ifM, Pd.isiM, Pd.bindM, Pd.varM, Pd.liftO, Pd.isiD, Pd.tyOfD, Pd.asB, Pd.notV, Pd.chainM, Pd.op2M, Pd.leD, Pd.ltD, Pd.gtD, Pd.geD, Pd.intD, Pd.retM, Pd.outOf, Pd.ownAt, Pd.bltM, Pd.vals, Pd.lenD, Pd.consM, Pd.callM, Pd.ownSlots, Pd.svsOf, Pd.svOf, Pd.setOwn, Pd.nxS, Pd.setM, isOwn_zero, isOwn_succ, isOwn_nil, isOD_zero, isOD_succ, isOD_nil, ownB_free, mrg_free, Pd.wipeE, mergeE_nil, mergeE_cons, Pd.fldM, Pd.fldOf, fl_rooms, fl_sizes, fl_zones, fl_far, fl_alive, fl_apart, Pd.siM, Pd.seqOf, Pd.asgS, Pd.setS, Pd.dropS, hf, parS, negM, asI, ix0, ix1, ix2, ix3, eq_cd, ix_eP hm, in_tupI, ha, eO]
  | dp sh m =>
    obtain ⟨h1, h2⟩ := hs
    obtain ⟨ms, hm, hmem⟩ := get_ms h h1
    have hm3 := hw.m3 hmem hc
    have hdp := v_dropped A c hc p sh m ms (by omega) hm (hw.inR hmem) (by omega)
    unfold eS at hf ⊢
    unfold F_placing_after g_placing_after pa
    have ix1 : ∀ (x y z : PyData), ixD (.da (.tuple [x, y, z])) (.da (.int 1)) = some (.da y) := fun _ _ _ => rfl
    have ix0 : ∀ (x y z : PyData), ixD (.da (.tuple [x, y, z])) (.da (.int 0)) = some (.da x) := fun _ _ _ => rfl
    have ix3 : ∀ (x y z : PyData), ixD (.da (.tuple [x, y, z])) (.da (.int (-1))) = some (.da z) := fun _ _ _ => rfl
    simp [Pd.runN, Pd.runF, Pd.seqS, Pd.ifS, Pd.retS, Pd.withE, Pd.andV, Pd.orV, Pd.boolM, Pd.notM, Pd.andM, Pd.orM, Pd.ifM, Pd.isiM, Pd.bindM, Pd.varM, Pd.liftO, Pd.isiD, Pd.tyOfD, Pd.asB, Pd.notV, Pd.chainM, Pd.op2M, Pd.leD, Pd.ltD, Pd.gtD, Pd.geD, Pd.intD, Pd.retM, Pd.outOf, Pd.ownAt, Pd.bltM, Pd.vals, Pd.lenD, Pd.consM, Pd.callM, Pd.ownSlots, Pd.svsOf, Pd.svOf, Pd.setOwn, Pd.nxS, Pd.setM, isOwn_zero, isOwn_succ, isOwn_nil, isOD_zero, isOD_succ, isOD_nil, ownB_free, mrg_free, Pd.wipeE, mergeE_nil, mergeE_cons, Pd.fldM, Pd.fldOf, fl_rooms, fl_sizes, fl_zones, fl_far, fl_alive, fl_apart, Pd.siM, Pd.seqOf, Pd.asgS, Pd.setS, Pd.dropS, hf, parS, negM, asI, ix0, ix1, ix3, eq_dd, hdp]
def resO (C : Addr) (fs : List (Str × PyData)) : Option SV → Res
  | none => .exc C fs
  | some d => .ret d []
theorem v_after (A : Ads) (c : Cl) (hc : OkC c) (p : P') (h : Pl c p) (s : Stp) (hs : InS c s) : F_after A [.obj A.C (fl c), .da (eP p), .da (eS s)] = some (resO A.CB [] ((pa c p s).map fun q => .da (eP q))) := by
  have h1 := v_check_placing A c hc p h
  have h2 := v_placing_after A c hc p h s hs
  unfold F_after g_after
  cases hp : pa c p s with
  | none =>
    rw [hp] at h2
    simp [Pd.runN, Pd.runF, Pd.seqS, Pd.ifS, Pd.retS, Pd.withE, Pd.andV, Pd.orV, Pd.boolM, Pd.notM, Pd.andM, Pd.orM, Pd.ifM, Pd.isiM, Pd.bindM, Pd.varM, Pd.liftO, Pd.isiD, Pd.tyOfD, Pd.asB, Pd.notV, Pd.chainM, Pd.op2M, Pd.leD, Pd.ltD, Pd.gtD, Pd.geD, Pd.intD, Pd.retM, Pd.outOf, Pd.ownAt, Pd.bltM, Pd.vals, Pd.lenD, Pd.consM, Pd.callM, Pd.ownSlots, Pd.svsOf, Pd.svOf, Pd.setOwn, Pd.nxS, Pd.setM, isOwn_zero, isOwn_succ, isOwn_nil, isOD_zero, isOD_succ, isOD_nil, ownB_free, mrg_free, Pd.wipeE, mergeE_nil, mergeE_cons, Pd.fldM, Pd.fldOf, fl_rooms, fl_sizes, fl_zones, fl_far, fl_alive, fl_apart, Pd.siM, Pd.seqOf, Pd.asgS, Pd.setS, Pd.dropS, h1, h2, eO, isD, isNone, raise0S, resO]
  | some q =>
    rw [hp] at h2
    simp [Pd.runN, Pd.runF, Pd.seqS, Pd.ifS, Pd.retS, Pd.withE, Pd.andV, Pd.orV, Pd.boolM, Pd.notM, Pd.andM, Pd.orM, Pd.ifM, Pd.isiM, Pd.bindM, Pd.varM, Pd.liftO, Pd.isiD, Pd.tyOfD, Pd.asB, Pd.notV, Pd.chainM, Pd.op2M, Pd.leD, Pd.ltD, Pd.gtD, Pd.geD, Pd.intD, Pd.retM, Pd.outOf, Pd.ownAt, Pd.bltM, Pd.vals, Pd.lenD, Pd.consM, Pd.callM, Pd.ownSlots, Pd.svsOf, Pd.svOf, Pd.setOwn, Pd.nxS, Pd.setM, isOwn_zero, isOwn_succ, isOwn_nil, isOD_zero, isOD_succ, isOD_nil, ownB_free, mrg_free, Pd.wipeE, mergeE_nil, mergeE_cons, Pd.fldM, Pd.fldOf, fl_rooms, fl_sizes, fl_zones, fl_far, fl_alive, fl_apart, Pd.siM, Pd.seqOf, Pd.asgS, Pd.setS, Pd.dropS, h1, h2, eO, isD, ↓isNone_eP, isNone, resO]
theorem v_step_price (A : Ads) (c : Cl) (hc : OkC c) (hF : OkF c) (s : Stp) (hs : InS c s) : F_step_price A [.obj A.C (fl c), .da (eS s)] = some (.ret (.da (.int (pr c s))) []) := by
  cases s with
  | cp sh a b =>
    obtain ⟨h1, h2, h3⟩ := hs
    have fo := fee_ok hc hF sh
    have ix0 : ∀ (x y z w : PyData), ixD (.da (.tuple [x, y, z, w])) (.da (.int 0)) = some (.da x) := fun _ _ _ _ => rfl
    have ix1 : ∀ (x y z w : PyData), ixD (.da (.tuple [x, y, z, w])) (.da (.int 1)) = some (.da y) := fun _ _ _ _ => rfl
    have ix2 : ∀ (x y z w : PyData), ixD (.da (.tuple [x, y, z, w])) (.da (.int 2)) = some (.da z) := fun _ _ _ _ => rfl
    have ix3 : ∀ (x y z w : PyData), ixD (.da (.tuple [x, y, z, w])) (.da (.int 3)) = some (.da w) := fun _ _ _ _ => rfl
    unfold F_step_price g_step_price eS pr
    by_cases hz : zn c a = zn c b <;> simp [Pd.runN, Pd.runF, Pd.seqS, Pd.ifS, Pd.retS, Pd.withE, Pd.andV, Pd.orV, Pd.boolM, Pd.notM, Pd.andM, Pd.orM, Pd.ifM, Pd.isiM, Pd.bindM, Pd.varM, Pd.liftO, Pd.isiD, Pd.tyOfD, Pd.asB, Pd.notV, Pd.chainM, Pd.op2M, Pd.leD, Pd.ltD, Pd.gtD, Pd.geD, Pd.intD, Pd.retM, Pd.outOf, Pd.ownAt, Pd.bltM, Pd.vals, Pd.lenD, Pd.consM, Pd.callM, Pd.ownSlots, Pd.svsOf, Pd.svOf, Pd.setOwn, Pd.nxS, Pd.setM, isOwn_zero, isOwn_succ, isOwn_nil, isOD_zero, isOD_succ, isOD_nil, ownB_free, mrg_free, Pd.wipeE, mergeE_nil, mergeE_cons, Pd.fldM, Pd.fldOf, fl_rooms, fl_sizes, fl_zones, fl_far, fl_alive, fl_apart, Pd.siM, Pd.seqOf, Pd.asgS, Pd.setS, Pd.dropS, ix0, ix1, ix2, ix3, eq_cd, ix_size h1, ix_zone hc h2, ix_zone hc h3, eqD_int, hz, fo]
  | dp sh m =>
    have ix0 : ∀ (x y z : PyData), ixD (.da (.tuple [x, y, z])) (.da (.int 0)) = some (.da x) := fun _ _ _ => rfl
    unfold F_step_price g_step_price eS pr
    simp [Pd.runN, Pd.runF, Pd.seqS, Pd.ifS, Pd.retS, Pd.withE, Pd.andV, Pd.orV, Pd.boolM, Pd.notM, Pd.andM, Pd.orM, Pd.ifM, Pd.isiM, Pd.bindM, Pd.varM, Pd.liftO, Pd.isiD, Pd.tyOfD, Pd.asB, Pd.notV, Pd.chainM, Pd.op2M, Pd.leD, Pd.ltD, Pd.gtD, Pd.geD, Pd.intD, Pd.retM, Pd.outOf, Pd.ownAt, Pd.bltM, Pd.vals, Pd.lenD, Pd.consM, Pd.callM, Pd.ownSlots, Pd.svsOf, Pd.svOf, Pd.setOwn, Pd.nxS, Pd.setM, isOwn_zero, isOwn_succ, isOwn_nil, isOD_zero, isOD_succ, isOD_nil, ownB_free, mrg_free, Pd.wipeE, mergeE_nil, mergeE_cons, Pd.fldM, Pd.fldOf, fl_rooms, fl_sizes, fl_zones, fl_far, fl_alive, fl_apart, Pd.siM, Pd.seqOf, Pd.asgS, Pd.setS, Pd.dropS, ix0, eq_dd]
theorem v_price (A : Ads) (c : Cl) (hc : OkC c) (hF : OkF c) (p : P') (h : Pl c p) (s : Stp) (hs : InS c s) : F_price A [.obj A.C (fl c), .da (eP p), .da (eS s)] = some (resO A.CB [] ((pa c p s).map fun _ => .da (.int (pr c s)))) := by
  have h1 := v_after A c hc p h s hs
  have h2 := v_step_price A c hc hF s hs
  unfold F_price g_price
  cases hp : pa c p s with
  | none =>
    rw [hp] at h1
    simp [Pd.runN, Pd.runF, Pd.seqS, Pd.ifS, Pd.retS, Pd.withE, Pd.andV, Pd.orV, Pd.boolM, Pd.notM, Pd.andM, Pd.orM, Pd.ifM, Pd.isiM, Pd.bindM, Pd.varM, Pd.liftO, Pd.isiD, Pd.tyOfD, Pd.asB, Pd.notV, Pd.chainM, Pd.op2M, Pd.leD, Pd.ltD, Pd.gtD, Pd.geD, Pd.intD, Pd.retM, Pd.outOf, Pd.ownAt, Pd.bltM, Pd.vals, Pd.lenD, Pd.consM, Pd.callM, Pd.ownSlots, Pd.svsOf, Pd.svOf, Pd.setOwn, Pd.nxS, Pd.setM, isOwn_zero, isOwn_succ, isOwn_nil, isOD_zero, isOD_succ, isOD_nil, ownB_free, mrg_free, Pd.wipeE, mergeE_nil, mergeE_cons, Pd.fldM, Pd.fldOf, fl_rooms, fl_sizes, fl_zones, fl_far, fl_alive, fl_apart, Pd.siM, Pd.seqOf, Pd.asgS, Pd.setS, Pd.dropS, h1, resO]
  | some q =>
    rw [hp] at h1
    simp [Pd.runN, Pd.runF, Pd.seqS, Pd.ifS, Pd.retS, Pd.withE, Pd.andV, Pd.orV, Pd.boolM, Pd.notM, Pd.andM, Pd.orM, Pd.ifM, Pd.isiM, Pd.bindM, Pd.varM, Pd.liftO, Pd.isiD, Pd.tyOfD, Pd.asB, Pd.notV, Pd.chainM, Pd.op2M, Pd.leD, Pd.ltD, Pd.gtD, Pd.geD, Pd.intD, Pd.retM, Pd.outOf, Pd.ownAt, Pd.bltM, Pd.vals, Pd.lenD, Pd.consM, Pd.callM, Pd.ownSlots, Pd.svsOf, Pd.svOf, Pd.setOwn, Pd.nxS, Pd.setM, isOwn_zero, isOwn_succ, isOwn_nil, isOD_zero, isOD_succ, isOD_nil, ownB_free, mrg_free, Pd.wipeE, mergeE_nil, mergeE_cons, Pd.fldM, Pd.fldOf, fl_rooms, fl_sizes, fl_zones, fl_far, fl_alive, fl_apart, Pd.siM, Pd.seqOf, Pd.asgS, Pd.setS, Pd.dropS, h1, resO, h2]
/-! ### what is kept -/
theorem wi_mem {p : P'} {sh : Nat} {x ms : List Int} (h : ms ∈ wi p sh x) : ms ∈ p ∨ ms = x := by
  unfold wi at h
  rcases List.mem_append.mp h with h | h
  · rcases List.mem_append.mp h with h | h
    · exact .inl (List.mem_of_mem_take h)
    · exact .inr (List.mem_singleton.mp h)
  · exact .inl (List.mem_of_mem_drop h)
theorem Pl.cp {c : Cl} (hc : OkC c) {p q : P'} (h : Pl c p) {sh : Nat} (hs : sh < c.sizes.length) {t : Int} (ht : inR c t) (e : cpR c p sh t = some q) : Pl c q := by
  obtain ⟨ms, hm, hmem⟩ := get_ms h hs
  rw [cpR_law hc h hm ht] at e
  split at e
  · cases e
  · rename_i hn
    split at e
    · rename_i hf
      have hn1 : isort (ms ++ [t]) ∈ ch c := Classical.byContradiction fun z => hn (.inr z)
      cases e
      exact ⟨by rw [wi_len (by rw [h.len]; exact hs), h.len], fun x hx => (wi_mem hx).elim (h.mem x) fun z => z ▸ hn1, hf⟩
    · cases e
theorem Pl.dp {c : Cl} (hc : OkC c) {p q : P'} (h : Pl c p) {sh : Nat} (hs : sh < c.sizes.length) {m : Int} (e : drR c p sh m = some q) : Pl c q := by
  obtain ⟨ms, hm, hmem⟩ := get_ms h hs
  have e1 : msOf p sh = ms := by unfold msOf; rw [hm]; rfl
  have hmm : m ∈ ms := Classical.byContradiction fun z => by
    unfold drR at e
    rw [e1, if_neg z] at e
    cases e
  rw [drR_law hc h hm hmm] at e
  split at e
  · rename_i hn
    cases e
    refine ⟨by rw [wi_len (by rw [h.len]; exact hs), h.len], fun x hx => (wi_mem hx).elim (h.mem x) fun z => z ▸ hn, ?_⟩
    rw [fits_iff]
    intro i hi
    have h1 := hl_wi (c := c) (x := ms.filter fun x => decide (x ≠ m)) h.len hm i
    have h2 := room_fit h.fit (mem_ns.mp hi)
    have h3 : 0 ≤ size c sh := by
      have := hc.sp _ (List.mem_of_getElem? (size_at hs)); omega
    by_cases hx : i ∈ ms.filter fun x => decide (x ≠ m)
    · rw [if_pos hx, if_pos (List.mem_filter.mp hx).1] at h1; omega
    · rw [if_neg hx] at h1
      split at h1 <;> omega
  · cases e
theorem Pl.pa {c : Cl} (hc : OkC c) {p q : P'} (h : Pl c p) {s : Stp} (hs : InS c s) (e : pa c p s = some q) : Pl c q := by
  cases s with
  | cp sh a b =>
    unfold K01.pa at e
    simp only at e
    split at e
    · exact h.cp hc hs.1 hs.2.2 e
    · cases e
  | dp sh m => exact h.dp hc hs.1 e
theorem mem_toList {α : Type} {o : Option α} {a : α} : a ∈ o.toList ↔ o = some a := by cases o <;> simp [eq_comm]
theorem mvs_iff {c : Cl} (hc : OkC c) {p : P'} (h : Pl c p) {s : Stp} {q : P'} : (s, q) ∈ mvs c p ↔ InS c s ∧ pa c p s = some q := by
  have hw := h.wild hc
  unfold mvs
  rw [List.mem_append]
  constructor
  · rintro (h1 | h1)
    · obtain ⟨⟨sh, ms⟩, h2, h3⟩ := List.mem_flatMap.mp h1
      have hget : p[sh]? = some ms := en_get h2
      have hlt : sh < p.length := en_lt h2
      have e1 : msOf p sh = ms := by unfold msOf; rw [hget]; rfl
      unfold cop at h3
      obtain ⟨src, h4, h5⟩ := List.mem_flatMap.mp h3
      obtain ⟨t, h6, h7⟩ := List.mem_flatMap.mp h5
      unfold cop1 at h7
      rw [mem_toList] at h7
      cases hr : cpR c p sh t with
      | none => rw [hr] at h7; cases h7
      | some q' =>
        rw [hr] at h7
        cases h7
        refine ⟨⟨by rw [← h.len]; exact hlt, hw.inR (en_mem h2) _ h4, mem_ns.mp h6⟩, ?_⟩
        show (if src ∈ msOf p sh then cpR c p sh t else none) = _
        rw [e1, if_pos h4, hr]
    · obtain ⟨⟨sh, ms⟩, h2, h3⟩ := List.mem_flatMap.mp h1
      have hlt : sh < p.length := en_lt h2
      unfold drp at h3
      obtain ⟨m, h4, h5⟩ := List.mem_flatMap.mp h3
      rw [mem_toList] at h5
      cases hr : drR c p sh m with
      | none => rw [hr] at h5; cases h5
      | some q' =>
        rw [hr] at h5
        cases h5
        exact ⟨⟨by rw [← h.len]; exact hlt, hw.inR (en_mem h2) _ h4⟩, hr⟩
  · rintro ⟨h1, h2⟩
    have hen : ∀ sh ms, p[sh]? = some ms → (sh, ms) ∈ en p := fun sh ms hm => by
      have hk := List.getElem?_eq_some_iff.mp hm
      unfold en
      exact List.mem_mapIdx.mpr ⟨sh, hk.1, by rw [hk.2]⟩
    cases s with
    | cp sh a b =>
      obtain ⟨k1, k2, k3⟩ := h1
      obtain ⟨ms, hm, hmem⟩ := get_ms h k1
      have e1 : msOf p sh = ms := by unfold msOf; rw [hm]; rfl
      unfold K01.pa at h2
      simp only [e1] at h2
      split at h2
      · rename_i ha
        refine .inl (List.mem_flatMap.mpr ⟨(sh, ms), hen sh ms hm, ?_⟩)
        unfold cop
        refine List.mem_flatMap.mpr ⟨a, ha, List.mem_flatMap.mpr ⟨b, mem_ns.mpr k3, ?_⟩⟩
        unfold cop1
        rw [mem_toList, h2]; rfl
      · cases h2
    | dp sh m =>
      obtain ⟨k1, k2⟩ := h1
      obtain ⟨ms, hm, hmem⟩ := get_ms h k1
      have e1 : msOf p sh = ms := by unfold msOf; rw [hm]; rfl
      have h2 : drR c p sh m = some q := h2
      have hmm : m ∈ ms := Classical.byContradiction fun z => by
        unfold drR at h2
        rw [e1, if_neg z] at h2
        cases h2
      refine .inr (List.mem_flatMap.mpr ⟨(sh, ms), hen sh ms hm, ?_⟩)
      unfold drp
      refine List.mem_flatMap.mpr ⟨m, hmm, ?_⟩
      rw [mem_toList, h2]; rfl
theorem mvs_len {c : Cl} (hc : OkC c) {p : P'} (h : Pl c p) : (mvs c p).length ≤ 36 := by
  have hw := h.wild hc
  have hrl := hc.rl
  have hpl : p.length ≤ 3 := by rw [h.len]; exact hc.sl.2
  have h1 := flat_len (fun q : Nat × List Int => cop c p q.1 q.2) 9 (en p) fun x hx => by
    have h1 := cop_len c p x.1 x.2
    have h2 := hw.m3 (en_mem hx) hc
    have := Nat.mul_le_mul h2 hrl.2
    omega
  have h2 := flat_len (fun q : Nat × List Int => drp c p q.1 q.2) 3 (en p) fun x hx => by
    have h1 := drp_len c p x.1 x.2
    have h2 := hw.m3 (en_mem hx) hc
    omega
  rw [en_len] at h1 h2
  unfold mvs
  rw [List.length_append]
  omega
end K01
end
section
set_option Elab.async false
set_option linter.all false
set_option maxRecDepth 100000
set_option maxHeartbeats 1000000
namespace K01
open PySem Pd
/-! ### ways -/
theorem forGo_pre {α : Type} (enc : α → PyData) {g : SV → Mo Unit} {body : MoS} {l : List α} (P : List α → PEnv → Prop) (hs : ∀ done x rest env, done ++ x :: rest = l → P done env → ∃ e1 e2, g (.da (enc x)) env = some (.ok () e1) ∧ (body e1 = some (.nx e2) ∨ body e1 = some (.ct e2)) ∧ P (done ++ [x]) e2) :
    ∀ (rest done : List α) (env : PEnv), done ++ rest = l → P done env → ∃ e, (∀ ys, forGo g body (rest.map enc ++ ys) env = forGo g body ys e) ∧ P l e
  | [], done, env, h, p => by
    rw [List.append_nil] at h
    subst h
    exact ⟨env, fun _ => rfl, p⟩
  | x :: rest, done, env, h, p => by
    obtain ⟨e1, e2, h1, h2, h3⟩ := hs done x rest env h p
    obtain ⟨e, q1, q2⟩ := forGo_pre enc P hs rest (done ++ [x]) e2 (by rw [← h]; simp) h3
    refine ⟨e, fun ys => ?_, q2⟩
    rw [← q1 ys, List.map_cons, List.cons_append]
    conv => lhs; unfold forGo
    rw [h1]
    dsimp only
    rcases h2 with h2 | h2 <;> rw [h2]
def lastP (p : P') (L : List P') : P' := L.getLast?.getD p
theorem lastP_snoc (p q : P') (L : List P') : lastP p (L ++ [q]) = q := by simp [lastP]
def wk (c : Cl) : P' → List Stp → Option (List P')
  | _, [] => some []
  | p, s :: r => match pa c p s with
    | none => none
    | some q => (wk c q r).map (q :: ·)
theorem lastP_cons (p q : P') (L : List P') : lastP p (q :: L) = lastP q L := by
  unfold lastP
  cases L with
  | nil => rfl
  | cons a L => rw [List.getLast?_cons_cons]; simp [List.getLast?_cons]
theorem wk_snoc (c : Cl) (s : Stp) : ∀ (ss : List Stp) (p : P') (L : List P'), wk c p ss = some L → wk c p (ss ++ [s]) = (pa c (lastP p L) s).map fun q => L ++ [q]
  | [], p, L, h => by
    cases h
    show (match pa c p s with | none => none | some q => (wk c q []).map (q :: ·)) = _
    show _ = (pa c p s).map _
    cases pa c p s <;> rfl
  | a :: ss, p, L, h => by
    unfold wk at h
    rw [List.cons_append]
    unfold wk
    cases ha : pa c p a with
    | none => rw [ha] at h; cases h
    | some q =>
      rw [ha] at h
      dsimp only at h ⊢
      cases hw : wk c q ss with
      | none => rw [hw] at h; cases h
      | some L1 =>
        rw [hw] at h
        cases h
        rw [wk_snoc c s ss q L1 hw, lastP_cons]
        cases pa c (lastP q L1) s <;> rfl
theorem wk_pre (c : Cl) : ∀ (a b : List Stp) (p : P') (L : List P'), wk c p (a ++ b) = some L → ∃ L1, wk c p a = some L1 ∧ L1.length = a.length ∧ L1 = L.take a.length
  | [], b, p, L, h => ⟨[], rfl, rfl, by simp⟩
  | s :: a, b, p, L, h => by
    rw [List.cons_append] at h
    unfold wk at h
    cases ha : pa c p s with
    | none => rw [ha] at h; cases h
    | some q =>
      rw [ha] at h
      dsimp only at h
      cases hw : wk c q (a ++ b) with
      | none => rw [hw] at h; cases h
      | some L2 =>
        rw [hw] at h
        cases h
        obtain ⟨L1, h1, h2, h3⟩ := wk_pre c a b q L2 hw
        refine ⟨q :: L1, ?_, by simp [h2], by simp [h3]⟩
        unfold wk
        rw [ha]
        dsimp only
        rw [h1]; rfl
theorem wk_pl {c : Cl} (hc : OkC c) : ∀ (ss : List Stp) (p : P') (L : List P'), Pl c p → (∀ s ∈ ss, InS c s) → wk c p ss = some L → (∀ q ∈ L, Pl c q) ∧ L.length = ss.length
  | [], p, L, hp, _, h => by cases h; exact ⟨fun q hq => by simp at hq, rfl⟩
  | s :: ss, p, L, hp, hs, h => by
    unfold wk at h
    cases ha : pa c p s with
    | none => rw [ha] at h; cases h
    | some q =>
      rw [ha] at h
      dsimp only at h
      cases hw : wk c q ss with
      | none => rw [hw] at h; cases h
      | some L1 =>
        rw [hw] at h
        cases h
        have hq := hp.pa hc (hs s (.head _)) ha
        obtain ⟨h1, h2⟩ := wk_pl hc ss q L1 hq (fun x hx => hs x (.tail _ hx)) hw
        refine ⟨fun x hx => ?_, by simp [h2]⟩
        rcases List.mem_cons.mp hx with rfl | hx
        · exact hq
        · exact h1 x hx
theorem lastP_pl {c : Cl} {p : P'} {L : List P'} (hp : Pl c p) (hL : ∀ q ∈ L, Pl c q) : Pl c (lastP p L) := by
  unfold lastP
  cases h : L.getLast? with
  | none => exact hp
  | some q => exact hL q (List.mem_of_getLast? h)
def enS (ss : List Stp) : List (Nat × Stp) := ss.mapIdx fun i s => (i, s)
theorem enumL_enS (ss : List Stp) : enumL (ss.map eS) = (enS ss).map fun q => PyData.tuple [.int q.1, eS q.2] := by
  unfold enumL enS
  apply List.ext_getElem?
  intro i
  simp only [List.getElem?_mapIdx, List.getElem?_map, Option.map_map]
  rfl
theorem enS_snd (ss : List Stp) : (enS ss).map (·.2) = ss := by
  unfold enS
  apply List.ext_getElem?
  intro i
  simp only [List.getElem?_mapIdx, List.getElem?_map, Option.map_map]
  cases ss[i]? <;> rfl
theorem enS_app (a b : List Stp) : ∃ b', enS (a ++ b) = enS a ++ b' ∧ ∀ s r, b = s :: r → ∃ r', b' = (a.length, s) :: r' := by
  refine ⟨b.mapIdx fun i s => (i + a.length, s), ?_, ?_⟩
  · unfold enS
    rw [List.mapIdx_append]
  · rintro s r rfl
    exact ⟨_, by rw [List.mapIdx_cons, Nat.zero_add]⟩
def walkBody (A : Ads) : MoS := (seqS (setS 6 (Pd.bindM (consM (varM 0) (consM (ownIxM 3 (negM (retM (.da (.int 1))))) (consM (varM 5) (retM [])))) (callM (F_placing_after A)))) (seqS (ifS (boolM (op2M isD (varM 6) (retM (.da .none)))) (raiseS A.CS (idxM (varM 4))) nxS) (appS 3 (varM 6))))
def walkG : SV → Mo Unit := tupG 2 (consG (setM 4) (consG (setM 5) nilG))
theorem atI_last {α : Type} (a : α) (l : List α) : L2.atI (a :: l) (-1) = some ((a :: l).getLast (by simp)) := by
  unfold L2.atI L2.ixN
  rw [if_neg (by decide), if_pos (by simp; omega)]
  simp only [Option.bind_some]
  rw [List.getLast_eq_getElem]
  have : ((-1 : Int) + ((a :: l).length : Nat)).toNat = (a :: l).length - 1 := by simp; omega
  rw [this]
  simp
theorem last_own (p : P') (L : List P') : L2.atI ((p :: L).map eP) (-1) = some (eP (lastP p L)) := by
  rw [List.map_cons, atI_last]
  congr 1
  rw [List.getLast_eq_getElem]
  unfold lastP
  rcases List.eq_nil_or_concat L with rfl | ⟨L, q, rfl⟩
  · rfl
  · simp
theorem kl1 : L2.kitB "list" "list" = some true := by rfl
theorem kl2 : L2.kitB "list" "tuple" = some false := by rfl
theorem kl3 : L2.kitB "tuple" "list" = some false := by rfl
section
variable (A : Ads) (c : Cl) (hc : OkC c) (p : P') (h : Pl c p)
include hc h
theorem walk_pre (ss : List Stp) (hss : ∀ s ∈ ss, InS c s) (L : List P') (hw : wk c p ss = some L) (hlen : ss.length ≤ 1000) (way : PyData) :
    ∃ e, (∀ ys, forGo walkG (walkBody A) ((enS ss).map (fun q => PyData.tuple [.int q.1, eS q.2]) ++ ys) [some (.obj A.C (fl c)), some (.da (eP p)), some (.da way), some (.own [eP p]), none, none, none] = forGo walkG (walkBody A) ys e) ∧
      ∃ z4 z5 z6, free z4 = true ∧ free z5 = true ∧ free z6 = true ∧ e = [some (.obj A.C (fl c)), some (.da (eP p)), some (.da way), some (.own ((p :: L).map eP)), z4, z5, z6] := by
  obtain ⟨e, h1, L', hL', z4, z5, z6, k4, k5, k6, he⟩ := forGo_pre (fun q : Nat × Stp => PyData.tuple [.int q.1, eS q.2]) (g := walkG) (body := walkBody A) (l := enS ss)
    (fun done e => ∃ L', wk c p (done.map (·.2)) = some L' ∧ ∃ z4 z5 z6, free z4 = true ∧ free z5 = true ∧ free z6 = true ∧ e = [some (.obj A.C (fl c)), some (.da (eP p)), some (.da way), some (.own ((p :: L').map eP)), z4, z5, z6])
    (fun done q rest env hd hp => by
      obtain ⟨L', hL', z4, z5, z6, k4, k5, k6, rfl⟩ := hp
      obtain ⟨i, s⟩ := q
      have hsp : done.map (·.2) ++ s :: rest.map (·.2) = ss := by
        have := congrArg (List.map (·.2)) hd
        rw [enS_snd] at this
        simpa using this
      have hs : InS c s := hss s (by rw [← hsp]; simp)
      have hpre : ∀ x ∈ done.map (·.2), InS c x := fun x hx => hss x (by rw [← hsp]; exact List.mem_append_left _ hx)
      obtain ⟨g1, g2⟩ := wk_pl hc _ p L' h hpre hL'
      have hl : Pl c (lastP p L') := lastP_pl h g1
      have hsn := wk_snoc c s _ p L' hL'
      obtain ⟨L2, i1, i2, i3⟩ := wk_pre c (done.map (·.2) ++ [s]) (rest.map (·.2)) p L (by rw [← hw]; congr 1; rw [← hsp]; simp)
      rw [hsn] at i1
      cases hpa : pa c (lastP p L') s with
      | none => rw [hpa] at i1; cases i1
      | some q =>
        rw [hpa] at i1 hsn
        have va := v_placing_after A c hc _ hl s hs
        rw [hpa] at va
        have hlo := last_own p L'
        have hbd : L'.length + 1 < LIM := by
          have : done.length ≤ ss.length := by rw [← hsp]; simp
          rw [g2, List.length_map]; unfold LIM; omega
        refine ⟨[some (.obj A.C (fl c)), some (.da (eP p)), some (.da way), some (.own ((p :: L').map eP)), some (.da (.int i)), some (.da (eS s)), z6], _, ?_, .inl ?_, L' ++ [q], ?_, some (.da (.int i)), some (.da (eS s)), some (.da (eP q)), rfl, rfl, rfl, rfl⟩
        · unfold walkG
          simp [Pd.runN, Pd.runF, Pd.seqS, Pd.ifS, Pd.retS, Pd.withE, Pd.andV, Pd.orV, Pd.boolM, Pd.notM, Pd.andM, Pd.orM, Pd.ifM, Pd.isiM, Pd.bindM, Pd.varM, Pd.liftO, Pd.isiD, Pd.tyOfD, Pd.asB, Pd.notV, Pd.chainM, Pd.op2M, Pd.leD, Pd.ltD, Pd.gtD, Pd.geD, Pd.intD, Pd.retM, Pd.outOf, Pd.ownAt, Pd.bltM, Pd.vals, Pd.lenD, Pd.consM, Pd.callM, Pd.ownSlots, Pd.svsOf, Pd.svOf, Pd.setOwn, Pd.nxS, Pd.setM, isOwn_zero, isOwn_succ, isOwn_nil, isOD_zero, isOD_succ, isOD_nil, ownB_free, mrg_free, Pd.wipeE, mergeE_nil, mergeE_cons, Pd.fldM, Pd.fldOf, fl_rooms, fl_sizes, fl_zones, fl_far, fl_alive, fl_apart, Pd.siM, Pd.seqOf, Pd.asgS, Pd.setS, Pd.dropS, tupG, consG, nilG, k4, k5]
        · unfold walkBody
          generalize hG : (p :: L').map eP = G at *
          have hG2 : (p :: (L' ++ [q])).map eP = G ++ [eP q] := by rw [← hG]; simp
          have hGl : G.length < LIM := by rw [← hG]; simpa using hbd
          rw [hG2]
          simp [Pd.runN, Pd.runF, Pd.seqS, Pd.ifS, Pd.retS, Pd.withE, Pd.andV, Pd.orV, Pd.boolM, Pd.notM, Pd.andM, Pd.orM, Pd.ifM, Pd.isiM, Pd.bindM, Pd.varM, Pd.liftO, Pd.isiD, Pd.tyOfD, Pd.asB, Pd.notV, Pd.chainM, Pd.op2M, Pd.leD, Pd.ltD, Pd.gtD, Pd.geD, Pd.intD, Pd.retM, Pd.outOf, Pd.ownAt, Pd.bltM, Pd.vals, Pd.lenD, Pd.consM, Pd.callM, Pd.ownSlots, Pd.svsOf, Pd.svOf, Pd.setOwn, Pd.nxS, Pd.setM, isOwn_zero, isOwn_succ, isOwn_nil, isOD_zero, isOD_succ, isOD_nil, ownB_free, mrg_free, Pd.wipeE, mergeE_nil, mergeE_cons, Pd.fldM, Pd.fldOf, fl_rooms, fl_sizes, fl_zones, fl_far, fl_alive, fl_apart, Pd.siM, Pd.seqOf, Pd.asgS, Pd.setS, Pd.dropS, ownIxM, negM, asI, hlo, va, eO, isD, ↓isNone_eP, isNone, k6, appS, hGl]
        · rw [List.map_append]
          exact hsn) (enS ss) [] [some (.obj A.C (fl c)), some (.da (eP p)), some (.da way), some (.own [eP p]), none, none, none] rfl ⟨[], rfl, none, none, none, rfl, rfl, rfl, rfl⟩
  rw [enS_snd, hw] at hL'
  cases hL'
  exact ⟨e, h1, z4, z5, z6, k4, k5, k6, he⟩
/-- what a way may be given as -/
def wayD (ss : List Stp) (y : PyData) : Prop := y = .list (ss.map eS) ∨ y = .tuple (ss.map eS)
omit hc h in
theorem way_src {ss : List Stp} {y : PyData} (hy : wayD ss y) (x0 x1 x3 x4 x5 x6 : Option SV) : eiM (consM (varM 2) (retM [])) [x0, x1, some (.da y), x3, x4, x5, x6] = some (.ok ((enS ss).map fun q => PyData.tuple [.int q.1, eS q.2]) [x0, x1, some (.da y), x3, x4, x5, x6]) := by
  have e := enumL_enS ss
  rcases hy with rfl | rfl <;> simp [Pd.runN, Pd.runF, Pd.seqS, Pd.ifS, Pd.retS, Pd.withE, Pd.andV, Pd.orV, Pd.boolM, Pd.notM, Pd.andM, Pd.orM, Pd.ifM, Pd.isiM, Pd.bindM, Pd.varM, Pd.liftO, Pd.isiD, Pd.tyOfD, Pd.asB, Pd.notV, Pd.chainM, Pd.op2M, Pd.leD, Pd.ltD, Pd.gtD, Pd.geD, Pd.intD, Pd.retM, Pd.outOf, Pd.ownAt, Pd.bltM, Pd.vals, Pd.lenD, Pd.consM, Pd.callM, Pd.ownSlots, Pd.svsOf, Pd.svOf, Pd.setOwn, Pd.nxS, Pd.setM, isOwn_zero, isOwn_succ, isOwn_nil, isOD_zero, isOD_succ, isOD_nil, ownB_free, mrg_free, Pd.wipeE, mergeE_nil, mergeE_cons, Pd.fldM, Pd.fldOf, fl_rooms, fl_sizes, fl_zones, fl_far, fl_alive, fl_apart, Pd.siM, Pd.seqOf, Pd.asgS, Pd.setS, Pd.dropS, eiM, e]
theorem v_walk (ss : List Stp) (y : PyData) (hy : wayD ss y) (hss : ∀ s ∈ ss, InS c s) (L : List P') (hw : wk c p ss = some L) (hlen : ss.length ≤ 1000) :
    F_walk A [.obj A.C (fl c), .da (eP p), .da y] = some (.ret (.da (.list ((p :: L).map eP))) []) := by
  obtain ⟨e, h1, z4, z5, z6, k4, k5, k6, rfl⟩ := walk_pre A c hc p h ss hss L hw hlen y
  have h2 := h1 []
  have w : c0_walk A [some (.obj A.C (fl c)), some (.da (eP p)), some (.da y), some (.own [eP p]), none, none, none] = some (.nx [some (.obj A.C (fl c)), some (.da (eP p)), some (.da y), some (.own ((p :: L).map eP)), z4, z5, z6]) := by
    unfold c0_walk forS withE
    rw [way_src hy]
    dsimp only
    rw [List.append_nil] at h2
    exact h2
  have hcp := v_check_placing A c hc p h
  generalize hG : (p :: L).map eP = G at *
  unfold F_walk g_walk
  rcases hy with rfl | rfl <;> simp [Pd.runN, Pd.runF, Pd.seqS, Pd.ifS, Pd.retS, Pd.withE, Pd.andV, Pd.orV, Pd.boolM, Pd.notM, Pd.andM, Pd.orM, Pd.ifM, Pd.isiM, Pd.bindM, Pd.varM, Pd.liftO, Pd.isiD, Pd.tyOfD, Pd.asB, Pd.notV, Pd.chainM, Pd.op2M, Pd.leD, Pd.ltD, Pd.gtD, Pd.geD, Pd.intD, Pd.retM, Pd.outOf, Pd.ownAt, Pd.bltM, Pd.vals, Pd.lenD, Pd.consM, Pd.callM, Pd.ownSlots, Pd.svsOf, Pd.svOf, Pd.setOwn, Pd.nxS, Pd.setM, isOwn_zero, isOwn_succ, isOwn_nil, isOD_zero, isOD_succ, isOD_nil, ownB_free, mrg_free, Pd.wipeE, mergeE_nil, mergeE_cons, Pd.fldM, Pd.fldOf, fl_rooms, fl_sizes, fl_zones, fl_far, fl_alive, fl_apart, Pd.siM, Pd.seqOf, Pd.asgS, Pd.setS, Pd.dropS, hcp, isi2M, kl1, kl2, kl3, kb3, newLM, datas, ownS, w, frzS]
theorem v_walk_bad (ss : List Stp) (s : Stp) (ss2 : List Stp) (y : PyData) (hy : wayD (ss ++ s :: ss2) y) (hss : ∀ s ∈ ss, InS c s) (hs : InS c s) (L : List P') (hw : wk c p ss = some L) (hbad : pa c (lastP p L) s = none) (hlen : ss.length ≤ 1000) :
    F_walk A [.obj A.C (fl c), .da (eP p), .da y] = some (.exc A.CS [("index", .int ss.length)]) := by
  obtain ⟨e, h1, z4, z5, z6, k4, k5, k6, rfl⟩ := walk_pre A c hc p h ss hss L hw hlen y
  obtain ⟨b', hb, hb2⟩ := enS_app ss (s :: ss2)
  obtain ⟨r', rfl⟩ := hb2 s ss2 rfl
  have hl : Pl c (lastP p L) := lastP_pl h (wk_pl hc ss p L h hss hw).1
  have va := v_placing_after A c hc _ hl s hs
  rw [hbad] at va
  have hlo := last_own p L
  have w : c0_walk A [some (.obj A.C (fl c)), some (.da (eP p)), some (.da y), some (.own [eP p]), none, none, none] = some (.exc A.CS [("index", .int ss.length)]) := by
    unfold c0_walk forS withE
    rw [way_src hy]
    dsimp only
    rw [hb, List.map_append]
    refine (h1 _).trans ?_
    rw [List.map_cons]
    unfold forGo
    have hs1 : walkG (.da (.tuple [.int ss.length, eS s])) [some (.obj A.C (fl c)), some (.da (eP p)), some (.da y), some (.own ((p :: L).map eP)), z4, z5, z6] = some (.ok () [some (.obj A.C (fl c)), some (.da (eP p)), some (.da y), some (.own ((p :: L).map eP)), some (.da (.int ss.length)), some (.da (eS s)), z6]) := by
      unfold walkG
      simp [Pd.runN, Pd.runF, Pd.seqS, Pd.ifS, Pd.retS, Pd.withE, Pd.andV, Pd.orV, Pd.boolM, Pd.notM, Pd.andM, Pd.orM, Pd.ifM, Pd.isiM, Pd.bindM, Pd.varM, Pd.liftO, Pd.isiD, Pd.tyOfD, Pd.asB, Pd.notV, Pd.chainM, Pd.op2M, Pd.leD, Pd.ltD, Pd.gtD, Pd.geD, Pd.intD, Pd.retM, Pd.outOf, Pd.ownAt, Pd.bltM, Pd.vals, Pd.lenD, Pd.consM, Pd.callM, Pd.ownSlots, Pd.svsOf, Pd.svOf, Pd.setOwn, Pd.nxS, Pd.setM, isOwn_zero, isOwn_succ, isOwn_nil, isOD_zero, isOD_succ, isOD_nil, ownB_free, mrg_free, Pd.wipeE, mergeE_nil, mergeE_cons, Pd.fldM, Pd.fldOf, fl_rooms, fl_sizes, fl_zones, fl_far, fl_alive, fl_apart, Pd.siM, Pd.seqOf, Pd.asgS, Pd.setS, Pd.dropS, tupG, consG, nilG, k4, k5]
    have hb1 : walkBody A [some (.obj A.C (fl c)), some (.da (eP p)), some (.da y), some (.own ((p :: L).map eP)), some (.da (.int ss.length)), some (.da (eS s)), z6] = some (.exc A.CS [("index", .int ss.length)]) := by
      unfold walkBody
      generalize hG : (p :: L).map eP = G at *
      simp [Pd.runN, Pd.runF, Pd.seqS, Pd.ifS, Pd.retS, Pd.withE, Pd.andV, Pd.orV, Pd.boolM, Pd.notM, Pd.andM, Pd.orM, Pd.ifM, Pd.isiM, Pd.bindM, Pd.varM, Pd.liftO, Pd.isiD, Pd.tyOfD, Pd.asB, Pd.notV, Pd.chainM, Pd.op2M, Pd.leD, Pd.ltD, Pd.gtD, Pd.geD, Pd.intD, Pd.retM, Pd.outOf, Pd.ownAt, Pd.bltM, Pd.vals, Pd.lenD, Pd.consM, Pd.callM, Pd.ownSlots, Pd.svsOf, Pd.svOf, Pd.setOwn, Pd.nxS, Pd.setM, isOwn_zero, isOwn_succ, isOwn_nil, isOD_zero, isOD_succ, isOD_nil, ownB_free, mrg_free, Pd.wipeE, mergeE_nil, mergeE_cons, Pd.fldM, Pd.fldOf, fl_rooms, fl_sizes, fl_zones, fl_far, fl_alive, fl_apart, Pd.siM, Pd.seqOf, Pd.asgS, Pd.setS, Pd.dropS, ownIxM, negM, asI, hlo, va, eO, isD, isNone, k6, raiseS, idxM]
    rw [hs1]
    dsimp only
    rw [hb1]
  have hcp := v_check_placing A c hc p h
  clear h1 hb hb2
  generalize (ss ++ s :: ss2) = W at *
  unfold F_walk g_walk
  rcases hy with rfl | rfl <;> simp [Pd.runN, Pd.runF, Pd.seqS, Pd.ifS, Pd.retS, Pd.withE, Pd.andV, Pd.orV, Pd.boolM, Pd.notM, Pd.andM, Pd.orM, Pd.ifM, Pd.isiM, Pd.bindM, Pd.varM, Pd.liftO, Pd.isiD, Pd.tyOfD, Pd.asB, Pd.notV, Pd.chainM, Pd.op2M, Pd.leD, Pd.ltD, Pd.gtD, Pd.geD, Pd.intD, Pd.retM, Pd.outOf, Pd.ownAt, Pd.bltM, Pd.vals, Pd.lenD, Pd.consM, Pd.callM, Pd.ownSlots, Pd.svsOf, Pd.svOf, Pd.setOwn, Pd.nxS, Pd.setM, isOwn_zero, isOwn_succ, isOwn_nil, isOD_zero, isOD_succ, isOD_nil, ownB_free, mrg_free, Pd.wipeE, mergeE_nil, mergeE_cons, Pd.fldM, Pd.fldOf, fl_rooms, fl_sizes, fl_zones, fl_far, fl_alive, fl_apart, Pd.siM, Pd.seqOf, Pd.asgS, Pd.setS, Pd.dropS, hcp, isi2M, kl1, kl2, kl3, kb3, newLM, datas, ownS, w, frzS]
theorem v_way_price (hF : OkF c) (ss : List Stp) (y : PyData) (hy : wayD ss y) (hss : ∀ s ∈ ss, InS c s) (hlen : ss.length ≤ 1000) :
    F_way_price A [.obj A.C (fl c), .da y] = some (.ret (.da (.int (ss.map (pr c)).sum)) []) := by
  have w : c0_way_price A [some (.obj A.C (fl c)), some (.da y), none] = some (.ok (.da (.list (ss.map fun s => .int (pr c s)))) [some (.obj A.C (fl c)), some (.da y), none]) := by
    unfold c0_way_price
    rw [lcM_tl eS (l := ss) (fun s => some (.int (pr c s))) (by rcases hy with rfl | rfl <;> simp [Pd.runN, Pd.runF, Pd.seqS, Pd.ifS, Pd.retS, Pd.withE, Pd.andV, Pd.orV, Pd.boolM, Pd.notM, Pd.andM, Pd.orM, Pd.ifM, Pd.isiM, Pd.bindM, Pd.varM, Pd.liftO, Pd.isiD, Pd.tyOfD, Pd.asB, Pd.notV, Pd.chainM, Pd.op2M, Pd.leD, Pd.ltD, Pd.gtD, Pd.geD, Pd.intD, Pd.retM, Pd.outOf, Pd.ownAt, Pd.bltM, Pd.vals, Pd.lenD, Pd.consM, Pd.callM, Pd.ownSlots, Pd.svsOf, Pd.svOf, Pd.setOwn, Pd.nxS, Pd.setM, isOwn_zero, isOwn_succ, isOwn_nil, isOD_zero, isOD_succ, isOD_nil, ownB_free, mrg_free, Pd.wipeE, mergeE_nil, mergeE_cons, Pd.fldM, Pd.fldOf, fl_rooms, fl_sizes, fl_zones, fl_far, fl_alive, fl_apart, Pd.siM, Pd.seqOf, Pd.asgS, Pd.setS, Pd.dropS]) (by unfold LIM; omega) (fun s hs => ?_), filterMap_some]
    have := v_step_price A c hc hF s (hss s hs)
    unfold stepV
    simp [Pd.runN, Pd.runF, Pd.seqS, Pd.ifS, Pd.retS, Pd.withE, Pd.andV, Pd.orV, Pd.boolM, Pd.notM, Pd.andM, Pd.orM, Pd.ifM, Pd.isiM, Pd.bindM, Pd.varM, Pd.liftO, Pd.isiD, Pd.tyOfD, Pd.asB, Pd.notV, Pd.chainM, Pd.op2M, Pd.leD, Pd.ltD, Pd.gtD, Pd.geD, Pd.intD, Pd.retM, Pd.outOf, Pd.ownAt, Pd.bltM, Pd.vals, Pd.lenD, Pd.consM, Pd.callM, Pd.ownSlots, Pd.svsOf, Pd.svOf, Pd.setOwn, Pd.nxS, Pd.setM, isOwn_zero, isOwn_succ, isOwn_nil, isOD_zero, isOD_succ, isOD_nil, ownB_free, mrg_free, Pd.wipeE, mergeE_nil, mergeE_cons, Pd.fldM, Pd.fldOf, fl_rooms, fl_sizes, fl_zones, fl_far, fl_alive, fl_apart, Pd.siM, Pd.seqOf, Pd.asgS, Pd.setS, Pd.dropS, this]
  have es : intsOf (ss.map fun s => PyData.int (pr c s)) = some (ss.map (pr c)) := by
    have := intsOf_map (ss.map (pr c)); rw [List.map_map] at this; exact this
  unfold F_way_price g_way_price
  simp [Pd.runN, Pd.runF, Pd.seqS, Pd.ifS, Pd.retS, Pd.withE, Pd.andV, Pd.orV, Pd.boolM, Pd.notM, Pd.andM, Pd.orM, Pd.ifM, Pd.isiM, Pd.bindM, Pd.varM, Pd.liftO, Pd.isiD, Pd.tyOfD, Pd.asB, Pd.notV, Pd.chainM, Pd.op2M, Pd.leD, Pd.ltD, Pd.gtD, Pd.geD, Pd.intD, Pd.retM, Pd.outOf, Pd.ownAt, Pd.bltM, Pd.vals, Pd.lenD, Pd.consM, Pd.callM, Pd.ownSlots, Pd.svsOf, Pd.svOf, Pd.setOwn, Pd.nxS, Pd.setM, isOwn_zero, isOwn_succ, isOwn_nil, isOD_zero, isOD_succ, isOD_nil, ownB_free, mrg_free, Pd.wipeE, mergeE_nil, mergeE_cons, Pd.fldM, Pd.fldOf, fl_rooms, fl_sizes, fl_zones, fl_far, fl_alive, fl_apart, Pd.siM, Pd.seqOf, Pd.asgS, Pd.setS, Pd.dropS, w, lintD, es]
theorem v_cost (hF : OkF c) (ss : List Stp) (y : PyData) (hy : wayD ss y) (hss : ∀ s ∈ ss, InS c s) (L : List P') (hw : wk c p ss = some L) (hlen : ss.length ≤ 1000) :
    F_cost A [.obj A.C (fl c), .da (eP p), .da y] = some (.ret (.da (.int (ss.map (pr c)).sum)) []) := by
  have h1 := v_walk A c hc p h ss y hy hss L hw hlen
  have h2 := v_way_price A c hc p h hF ss y hy hss hlen
  unfold F_cost g_cost
  simp [Pd.runN, Pd.runF, Pd.seqS, Pd.ifS, Pd.retS, Pd.withE, Pd.andV, Pd.orV, Pd.boolM, Pd.notM, Pd.andM, Pd.orM, Pd.ifM, Pd.isiM, Pd.bindM, Pd.varM, Pd.liftO, Pd.isiD, Pd.tyOfD, Pd.asB, Pd.notV, Pd.chainM, Pd.op2M, Pd.leD, Pd.ltD, Pd.gtD, Pd.geD, Pd.intD, Pd.retM, Pd.outOf, Pd.ownAt, Pd.bltM, Pd.vals, Pd.lenD, Pd.consM, Pd.callM, Pd.ownSlots, Pd.svsOf, Pd.svOf, Pd.setOwn, Pd.nxS, Pd.setM, isOwn_zero, isOwn_succ, isOwn_nil, isOD_zero, isOD_succ, isOD_nil, ownB_free, mrg_free, Pd.wipeE, mergeE_nil, mergeE_cons, Pd.fldM, Pd.fldOf, fl_rooms, fl_sizes, fl_zones, fl_far, fl_alive, fl_apart, Pd.siM, Pd.seqOf, Pd.asgS, Pd.setS, Pd.dropS, h1, h2]
theorem v_cost_bad (ss : List Stp) (s : Stp) (ss2 : List Stp) (y : PyData) (hy : wayD (ss ++ s :: ss2) y) (hss : ∀ s ∈ ss, InS c s) (hs : InS c s) (L : List P') (hw : wk c p ss = some L) (hbad : pa c (lastP p L) s = none) (hlen : ss.length ≤ 1000) :
    F_cost A [.obj A.C (fl c), .da (eP p), .da y] = some (.exc A.CS [("index", .int ss.length)]) := by
  have h1 := v_walk_bad A c hc p h ss s ss2 y hy hss hs L hw hbad hlen
  unfold F_cost g_cost
  simp [Pd.runN, Pd.runF, Pd.seqS, Pd.ifS, Pd.retS, Pd.withE, Pd.andV, Pd.orV, Pd.boolM, Pd.notM, Pd.andM, Pd.orM, Pd.ifM, Pd.isiM, Pd.bindM, Pd.varM, Pd.liftO, Pd.isiD, Pd.tyOfD, Pd.asB, Pd.notV, Pd.chainM, Pd.op2M, Pd.leD, Pd.ltD, Pd.gtD, Pd.geD, Pd.intD, Pd.retM, Pd.outOf, Pd.ownAt, Pd.bltM, Pd.vals, Pd.lenD, Pd.consM, Pd.callM, Pd.ownSlots, Pd.svsOf, Pd.svOf, Pd.setOwn, Pd.nxS, Pd.setM, isOwn_zero, isOwn_succ, isOwn_nil, isOD_zero, isOD_succ, isOD_nil, ownB_free, mrg_free, Pd.wipeE, mergeE_nil, mergeE_cons, Pd.fldM, Pd.fldOf, fl_rooms, fl_sizes, fl_zones, fl_far, fl_alive, fl_apart, Pd.siM, Pd.seqOf, Pd.asgS, Pd.setS, Pd.dropS, h1]
end
end K01
end
section
set_option Elab.async false
set_option linter.all false
set_option maxRecDepth 100000
set_option maxHeartbeats 1000000
namespace K01
open PySem Pd
/-! ### draws -/
theorem mulOk_of4 {i j : Int} (h1 : i.natAbs < 2 ^ 400) (h2 : j.natAbs < 2 ^ 400) : mulOk i j = true := by
  unfold mulOk
  have key : ∀ n : Nat, n < 2 ^ 400 → n.log2 ≤ 400 := fun n hn => by
    by_cases h : n = 0
    · subst h; decide
    · exact Nat.le_of_lt ((Nat.log2_lt h).mpr hn)
  have k1 := key _ h1
  have k2 := key _ h2
  exact decide_eq_true (by omega)
theorem modD_ok (i : Int) {j : Int} (h : 0 < j) : modD (.da (.int i)) (.da (.int j)) = some (.da (.int (i % j))) := by
  simp [modD, Pd.intD, modOk, h]
theorem mulD_ok {i j : Int} (h : mulOk i j = true) : mulD (.da (.int i)) (.da (.int j)) = some (.da (.int (i * j))) := by
  simp [mulD, Pd.intD, h]
theorem divD_ok (i : Int) {j : Int} (h : divOk i j = true) : divD (.da (.int i)) (.da (.int j)) = some (.da (.int (i / j))) := by
  simp [divD, Pd.intD, h]
theorem subD_ok (i j : Int) : subD (.da (.int i)) (.da (.int j)) = some (.da (.int (i - j))) := by
  simp [subD, Pd.intD]
theorem pow1018 : powD (.da (.int 10)) (.da (.int 18)) = some (.da (.int 1000000000000000000)) := by
  simp [powD, Pd.intD, powOk]
theorem intC (i : Int) : intCallD [.da (.int i)] = some (.da (.int i)) := rfl
def primes : List Int := [1000003, 1000033, 1000037, 1000039, 1000081, 1000099, 1000117, 1000121, 1000133, 1000151, 1000159, 1000171, 1000183, 1000187, 1000193, 1000199]
theorem primes_pos : ∀ q ∈ primes, 0 < q := by decide
theorem v_cell_at (A : Ads) (ns : List Int) (k : Int) (hk : 0 ≤ k) : ∃ v, F__law_cell_at A [.da (.list (ns.map .int)), .da (.int k)] = some (.ret (.da (.int v)) []) := by
  unfold F__law_cell_at g__law_cell_at
  by_cases h : k < ns.length
  · have h1 : k.toNat < ns.length := by omega
    have := ix_ints (l := ns) hk (List.getElem?_eq_getElem h1)
    exact ⟨_, by simp [Pd.runN, Pd.runF, Pd.seqS, Pd.ifS, Pd.retS, Pd.withE, Pd.andV, Pd.orV, Pd.boolM, Pd.notM, Pd.andM, Pd.orM, Pd.ifM, Pd.isiM, Pd.bindM, Pd.varM, Pd.liftO, Pd.isiD, Pd.tyOfD, Pd.asB, Pd.notV, Pd.chainM, Pd.op2M, Pd.leD, Pd.ltD, Pd.gtD, Pd.geD, Pd.intD, Pd.retM, Pd.outOf, Pd.ownAt, Pd.bltM, Pd.vals, Pd.lenD, Pd.consM, Pd.callM, Pd.ownSlots, Pd.svsOf, Pd.svOf, Pd.setOwn, Pd.nxS, Pd.setM, isOwn_zero, isOwn_succ, isOwn_nil, isOD_zero, isOD_succ, isOD_nil, ownB_free, mrg_free, Pd.wipeE, mergeE_nil, mergeE_cons, Pd.fldM, Pd.fldOf, fl_rooms, fl_sizes, fl_zones, fl_far, fl_alive, fl_apart, Pd.siM, Pd.seqOf, Pd.asgS, Pd.setS, Pd.dropS, h, this]; rfl⟩
  · exact ⟨0, by simp [Pd.runN, Pd.runF, Pd.seqS, Pd.ifS, Pd.retS, Pd.withE, Pd.andV, Pd.orV, Pd.boolM, Pd.notM, Pd.andM, Pd.orM, Pd.ifM, Pd.isiM, Pd.bindM, Pd.varM, Pd.liftO, Pd.isiD, Pd.tyOfD, Pd.asB, Pd.notV, Pd.chainM, Pd.op2M, Pd.leD, Pd.ltD, Pd.gtD, Pd.geD, Pd.intD, Pd.retM, Pd.outOf, Pd.ownAt, Pd.bltM, Pd.vals, Pd.lenD, Pd.consM, Pd.callM, Pd.ownSlots, Pd.svsOf, Pd.svOf, Pd.setOwn, Pd.nxS, Pd.setM, isOwn_zero, isOwn_succ, isOwn_nil, isOD_zero, isOD_succ, isOD_nil, ownB_free, mrg_free, Pd.wipeE, mergeE_nil, mergeE_cons, Pd.fldM, Pd.fldOf, fl_rooms, fl_sizes, fl_zones, fl_far, fl_alive, fl_apart, Pd.siM, Pd.seqOf, Pd.asgS, Pd.setS, Pd.dropS, h]⟩
theorem v_law_draw (A : Ads) (cell k b : Int) (hcell : cell.natAbs < 2 ^ 400) (hk : k.natAbs < 2 ^ 400) (hb : 0 < b) : ∃ v, 0 ≤ v ∧ v < b ∧ F__law_draw A [.da (.int cell), .da (.int k), .da (.int b)] = some (.ret (.da (.int v)) []) := by
  have h16 : 0 ≤ k % 16 ∧ k % 16 < 16 := ⟨Int.emod_nonneg _ (by decide), Int.emod_lt_of_pos _ (by decide)⟩
  have hlt : (k % 16).toNat < primes.length := by
    show _ < 16
    omega
  have hq := primes_pos _ (List.getElem_mem hlt)
  have ix := ix_intsT (l := primes) h16.1 (List.getElem?_eq_getElem hlt)
  generalize primes[(k % 16).toNat] = q at hq ix
  have m1 := mulD_ok (mulOk_of4 (i := cell) (j := 48271) hcell (by decide))
  have m2 := mulD_ok (mulOk_of4 (i := k) (j := 69621) hk (by decide))
  refine ⟨(cell * 48271 + k * 69621) % q % b, Int.emod_nonneg _ (by omega), Int.emod_lt_of_pos _ hb, ?_⟩
  have e16 := modD_ok k (j := 16) (by decide)
  have eq := modD_ok (cell * 48271 + k * 69621) hq
  have eb := modD_ok ((cell * 48271 + k * 69621) % q) hb
  unfold primes at ix
  simp only [List.map_cons, List.map_nil] at ix
  unfold F__law_draw g__law_draw
  simp [Pd.runN, Pd.runF, Pd.seqS, Pd.ifS, Pd.retS, Pd.withE, Pd.andV, Pd.orV, Pd.boolM, Pd.notM, Pd.andM, Pd.orM, Pd.ifM, Pd.isiM, Pd.bindM, Pd.varM, Pd.liftO, Pd.isiD, Pd.tyOfD, Pd.asB, Pd.notV, Pd.chainM, Pd.op2M, Pd.leD, Pd.ltD, Pd.gtD, Pd.geD, Pd.intD, Pd.retM, Pd.outOf, Pd.ownAt, Pd.bltM, Pd.vals, Pd.lenD, Pd.consM, Pd.callM, Pd.ownSlots, Pd.svsOf, Pd.svOf, Pd.setOwn, Pd.nxS, Pd.setM, isOwn_zero, isOwn_succ, isOwn_nil, isOD_zero, isOD_succ, isOD_nil, ownB_free, mrg_free, Pd.wipeE, mergeE_nil, mergeE_cons, Pd.fldM, Pd.fldOf, fl_rooms, fl_sizes, fl_zones, fl_far, fl_alive, fl_apart, Pd.siM, Pd.seqOf, Pd.asgS, Pd.setS, Pd.dropS, tupM, datas, m1, m2, add_int, intC, e16, ix, eq, eb]
theorem pow_lt (m : Nat) (h : m ≤ 24) : (1009 : Int) ^ m < 2 ^ 400 ∧ 0 < (1009 : Int) ^ m := by
  have h1 : (1009 : Nat) ^ m ≤ 1009 ^ 24 := Nat.pow_le_pow_right (by decide) h
  have h2 : (1009 : Nat) ^ 24 < 2 ^ 400 := by decide
  have h3 : ((1009 ^ m : Nat) : Int) = (1009 : Int) ^ m := by simp
  have h4 : 0 < (1009 : Nat) ^ m := Nat.pow_pos (by decide)
  constructor
  · rw [← h3]
    have : (1009 : Nat) ^ m < 2 ^ 400 := Nat.lt_of_le_of_lt h1 h2
    exact_mod_cast this
  · rw [← h3]; exact_mod_cast h4
theorem v_law_number (A : Ads) (cell k b : Int) (hk : 0 ≤ k ∧ k ≤ 13) (hb : 0 < b) : ∃ v, 0 ≤ v ∧ v < b ∧ F__law_number A [.da (.int cell), .da (.int k), .da (.int b)] = some (.ret (.da (.int v)) []) := by
  have h24 : 0 ≤ k % 24 ∧ k % 24 < 24 := ⟨Int.emod_nonneg _ (by decide), Int.emod_lt_of_pos _ (by decide)⟩
  have loop : ∃ z4, free z4 = true ∧ c0__law_number A [some (.da (.int cell)), some (.da (.int k)), some (.da (.int b)), some (.da (.int 1)), none, none, none] = some (.nx [some (.da (.int cell)), some (.da (.int k)), some (.da (.int b)), some (.da (.int (1009 ^ (k % 24).toNat))), z4, none, none]) := by
    obtain ⟨e, h1, z4, n4, rfl⟩ := forS_inv PyData.int (fi := rg1M (consM (op2M modD (bltM intCallD (consM (varM 1) (retM []))) (retM (.da (.int 24)))) (retM []))) (g := setM 4) (body := setS 3 (op2M mulD (varM 3) (retM (.da (.int 1009)))))
      (l := ns (k % 24).toNat) (env := [some (.da (.int cell)), some (.da (.int k)), some (.da (.int b)), some (.da (.int 1)), none, none, none])
      (fun done e => ∃ z4, free z4 = true ∧ e = [some (.da (.int cell)), some (.da (.int k)), some (.da (.int b)), some (.da (.int (1009 ^ done.length))), z4, none, none])
      (by
        have h1 : (-1000000 : Int) ≤ k % 24 := by omega
        have h2 : (k % 24 : Int) ≤ 1000000 := by omega
        have e24 := modD_ok k (j := 24) (by decide)
        simp [Pd.runN, Pd.runF, Pd.seqS, Pd.ifS, Pd.retS, Pd.withE, Pd.andV, Pd.orV, Pd.boolM, Pd.notM, Pd.andM, Pd.orM, Pd.ifM, Pd.isiM, Pd.bindM, Pd.varM, Pd.liftO, Pd.isiD, Pd.tyOfD, Pd.asB, Pd.notV, Pd.chainM, Pd.op2M, Pd.leD, Pd.ltD, Pd.gtD, Pd.geD, Pd.intD, Pd.retM, Pd.outOf, Pd.ownAt, Pd.bltM, Pd.vals, Pd.lenD, Pd.consM, Pd.callM, Pd.ownSlots, Pd.svsOf, Pd.svOf, Pd.setOwn, Pd.nxS, Pd.setM, isOwn_zero, isOwn_succ, isOwn_nil, isOD_zero, isOD_succ, isOD_nil, ownB_free, mrg_free, Pd.wipeE, mergeE_nil, mergeE_cons, Pd.fldM, Pd.fldOf, fl_rooms, fl_sizes, fl_zones, fl_far, fl_alive, fl_apart, Pd.siM, Pd.seqOf, Pd.asgS, Pd.setS, Pd.dropS, rg1M, rangeD1, h1, h2, rangeL_ns, intC, e24]) ⟨none, rfl, rfl⟩ (fun done m rest env hd hp => by
        obtain ⟨z4, n4, rfl⟩ := hp
        have hdl : done.length ≤ 24 := by
          have h := congrArg List.length hd
          rw [ns_len, List.length_append, List.length_cons] at h
          omega
        have hp := pow_lt done.length hdl
        have m1 := mulD_ok (mulOk_of4 (i := 1009 ^ done.length) (j := 1009) (by omega) (by decide))
        refine ⟨[some (.da (.int cell)), some (.da (.int k)), some (.da (.int b)), some (.da (.int (1009 ^ done.length))), some (.da (.int m)), none, none], [some (.da (.int cell)), some (.da (.int k)), some (.da (.int b)), some (.da (.int (1009 ^ done.length * 1009))), some (.da (.int m)), none, none], by simp [Pd.runN, Pd.runF, Pd.seqS, Pd.ifS, Pd.retS, Pd.withE, Pd.andV, Pd.orV, Pd.boolM, Pd.notM, Pd.andM, Pd.orM, Pd.ifM, Pd.isiM, Pd.bindM, Pd.varM, Pd.liftO, Pd.isiD, Pd.tyOfD, Pd.asB, Pd.notV, Pd.chainM, Pd.op2M, Pd.leD, Pd.ltD, Pd.gtD, Pd.geD, Pd.intD, Pd.retM, Pd.outOf, Pd.ownAt, Pd.bltM, Pd.vals, Pd.lenD, Pd.consM, Pd.callM, Pd.ownSlots, Pd.svsOf, Pd.svOf, Pd.setOwn, Pd.nxS, Pd.setM, isOwn_zero, isOwn_succ, isOwn_nil, isOD_zero, isOD_succ, isOD_nil, ownB_free, mrg_free, Pd.wipeE, mergeE_nil, mergeE_cons, Pd.fldM, Pd.fldOf, fl_rooms, fl_sizes, fl_zones, fl_far, fl_alive, fl_apart, Pd.siM, Pd.seqOf, Pd.asgS, Pd.setS, Pd.dropS, n4], .inl (by simp [Pd.runN, Pd.runF, Pd.seqS, Pd.ifS, Pd.retS, Pd.withE, Pd.andV, Pd.orV, Pd.boolM, Pd.notM, Pd.andM, Pd.orM, Pd.ifM, Pd.isiM, Pd.bindM, Pd.varM, Pd.liftO, Pd.isiD, Pd.tyOfD, Pd.asB, Pd.notV, Pd.chainM, Pd.op2M, Pd.leD, Pd.ltD, Pd.gtD, Pd.geD, Pd.intD, Pd.retM, Pd.outOf, Pd.ownAt, Pd.bltM, Pd.vals, Pd.lenD, Pd.consM, Pd.callM, Pd.ownSlots, Pd.svsOf, Pd.svOf, Pd.setOwn, Pd.nxS, Pd.setM, isOwn_zero, isOwn_succ, isOwn_nil, isOD_zero, isOD_succ, isOD_nil, ownB_free, mrg_free, Pd.wipeE, mergeE_nil, mergeE_cons, Pd.fldM, Pd.fldOf, fl_rooms, fl_sizes, fl_zones, fl_far, fl_alive, fl_apart, Pd.siM, Pd.seqOf, Pd.asgS, Pd.setS, Pd.dropS, m1]), some (.da (.int m)), rfl, ?_⟩
        rw [List.length_append, List.length_singleton, Int.pow_succ])
    rw [ns_len] at h1
    exact ⟨z4, n4, h1⟩
  obtain ⟨z4, n4, hloop⟩ := loop
  have hpw := pow_lt (k % 24).toNat (by omega)
  generalize (1009 : Int) ^ (k % 24).toNat = pw at *
  have hdiv : divOk (cell - 1000000000000000000) pw = true := by
    refine decide_eq_true ⟨hpw.2, ?_⟩
    have : pw.natAbs < 2 ^ 400 := by omega
    have := Nat.le_of_lt ((Nat.log2_lt (by omega)).mpr this)
    omega
  have d1 := divD_ok _ hdiv
  have s1 := subD_ok cell 1000000000000000000
  by_cases hpos : 0 < (cell - 1000000000000000000) / pw
  · refine ⟨(cell - 1000000000000000000) / pw % 1009 % b, Int.emod_nonneg _ (by omega), Int.emod_lt_of_pos _ hb, ?_⟩
    have m1 := modD_ok ((cell - 1000000000000000000) / pw) (j := 1009) (by decide)
    have m2 := modD_ok ((cell - 1000000000000000000) / pw % 1009) hb
    unfold F__law_number g__law_number
    simp [Pd.runN, Pd.runF, Pd.seqS, Pd.ifS, Pd.retS, Pd.withE, Pd.andV, Pd.orV, Pd.boolM, Pd.notM, Pd.andM, Pd.orM, Pd.ifM, Pd.isiM, Pd.bindM, Pd.varM, Pd.liftO, Pd.isiD, Pd.tyOfD, Pd.asB, Pd.notV, Pd.chainM, Pd.op2M, Pd.leD, Pd.ltD, Pd.gtD, Pd.geD, Pd.intD, Pd.retM, Pd.outOf, Pd.ownAt, Pd.bltM, Pd.vals, Pd.lenD, Pd.consM, Pd.callM, Pd.ownSlots, Pd.svsOf, Pd.svOf, Pd.setOwn, Pd.nxS, Pd.setM, isOwn_zero, isOwn_succ, isOwn_nil, isOD_zero, isOD_succ, isOD_nil, ownB_free, mrg_free, Pd.wipeE, mergeE_nil, mergeE_cons, Pd.fldM, Pd.fldOf, fl_rooms, fl_sizes, fl_zones, fl_far, fl_alive, fl_apart, Pd.siM, Pd.seqOf, Pd.asgS, Pd.setS, Pd.dropS, hloop, n4, pow1018, s1, d1, hpos, intC, m1, m2]
  · have hsm : 0 ≤ cell % 1000003 ∧ cell % 1000003 < 1000003 := ⟨Int.emod_nonneg _ (by decide), Int.emod_lt_of_pos _ (by decide)⟩
    have m0 := modD_ok cell (j := 1000003) (by decide)
    generalize hs : cell % 1000003 = sm at *
    have m1 := mulD_ok (mulOk_of4 (i := 977) (j := k) (by decide) (by omega))
    have m2 := mulD_ok (mulOk_of4 (i := 31) (j := k) (by decide) (by omega))
    have m3 := mulD_ok (mulOk_of4 (i := sm + 977 * k) (j := sm + 31 * k + 5) (by omega) (by omega))
    have m4 := modD_ok k (j := 9) (by decide)
    have h9 : 0 ≤ k % 9 ∧ k % 9 < 9 := ⟨Int.emod_nonneg _ (by decide), Int.emod_lt_of_pos _ (by decide)⟩
    have hprod : ((sm + 977 * k) * (sm + 31 * k + 5)).natAbs < 2 ^ 400 := by
      have a1 : 0 ≤ sm + 977 * k ∧ sm + 977 * k ≤ 2000000 := by omega
      have a2 : 0 ≤ sm + 31 * k + 5 ∧ sm + 31 * k + 5 ≤ 2000000 := by omega
      have h1 := Int.mul_le_mul a1.2 a2.2 a2.1 (by decide)
      have h0 := Int.mul_nonneg a1.1 a2.1
      omega
    obtain ⟨v, v1, v2, v3⟩ := v_law_draw A ((sm + 977 * k) * (sm + 31 * k + 5)) (k % 9 + 1) 999983 hprod (by omega) (by decide)
    refine ⟨v % b, Int.emod_nonneg _ (by omega), Int.emod_lt_of_pos _ hb, ?_⟩
    have m5 := modD_ok v hb
    unfold F__law_number g__law_number
    simp [Pd.runN, Pd.runF, Pd.seqS, Pd.ifS, Pd.retS, Pd.withE, Pd.andV, Pd.orV, Pd.boolM, Pd.notM, Pd.andM, Pd.orM, Pd.ifM, Pd.isiM, Pd.bindM, Pd.varM, Pd.liftO, Pd.isiD, Pd.tyOfD, Pd.asB, Pd.notV, Pd.chainM, Pd.op2M, Pd.leD, Pd.ltD, Pd.gtD, Pd.geD, Pd.intD, Pd.retM, Pd.outOf, Pd.ownAt, Pd.bltM, Pd.vals, Pd.lenD, Pd.consM, Pd.callM, Pd.ownSlots, Pd.svsOf, Pd.svOf, Pd.setOwn, Pd.nxS, Pd.setM, isOwn_zero, isOwn_succ, isOwn_nil, isOD_zero, isOD_succ, isOD_nil, ownB_free, mrg_free, Pd.wipeE, mergeE_nil, mergeE_cons, Pd.fldM, Pd.fldOf, fl_rooms, fl_sizes, fl_zones, fl_far, fl_alive, fl_apart, Pd.siM, Pd.seqOf, Pd.asgS, Pd.setS, Pd.dropS, hloop, n4, pow1018, s1, d1, hpos, intC, m0, m1, m2, m3, m4, m5, add_int, v3]
def dr (ns : List Int) (y k : Int) : List PyData := [.list (ns.map .int), .int y, .int k]
theorem v_next (A : Ads) (ns : List Int) (y k b : Int) (hy : 0 ≤ y) (hk : 0 ≤ k ∧ k ≤ 1000000000) (hb : 0 < b) : ∃ v, 0 ≤ v ∧ v < b ∧ F__law_next A [.own (dr ns y k), .da (.int b)] = some (.ret (.da (.int v)) (dr ns y (k + 1))) := by
  have hat : 0 ≤ (k + 1) / 12 ∧ (k + 1) / 12 ≤ 1000000001 := by omega
  have d1 := divD_ok (k + 1) (j := 12) (by rfl)
  have m1 := mulD_ok (mulOk_of4 (i := 31) (j := (k + 1) / 12) (by decide) (by omega))
  generalize (k + 1) / 12 = at_ at *
  obtain ⟨cell, hcell⟩ := v_cell_at A ns (y + at_) (by omega)
  have h12 : 0 ≤ (k + 1) % 12 ∧ (k + 1) % 12 < 12 := ⟨Int.emod_nonneg _ (by decide), Int.emod_lt_of_pos _ (by decide)⟩
  have m2 := modD_ok (k + 1) (j := 12) (by decide)
  obtain ⟨v, v1, v2, v3⟩ := v_law_number A (cell + 31 * at_) ((k + 1) % 12 + 1) b (by omega) hb
  refine ⟨v, v1, v2, ?_⟩
  unfold F__law_next g__law_next dr
  simp [Pd.runN, Pd.runF, Pd.seqS, Pd.ifS, Pd.retS, Pd.withE, Pd.andV, Pd.orV, Pd.boolM, Pd.notM, Pd.andM, Pd.orM, Pd.ifM, Pd.isiM, Pd.bindM, Pd.varM, Pd.liftO, Pd.isiD, Pd.tyOfD, Pd.asB, Pd.notV, Pd.chainM, Pd.op2M, Pd.leD, Pd.ltD, Pd.gtD, Pd.geD, Pd.intD, Pd.retM, Pd.outOf, Pd.ownAt, Pd.bltM, Pd.vals, Pd.lenD, Pd.consM, Pd.callM, Pd.ownSlots, Pd.svsOf, Pd.svOf, Pd.setOwn, Pd.nxS, Pd.setM, isOwn_zero, isOwn_succ, isOwn_nil, isOD_zero, isOD_succ, isOD_nil, ownB_free, mrg_free, Pd.wipeE, mergeE_nil, mergeE_cons, Pd.fldM, Pd.fldOf, fl_rooms, fl_sizes, fl_zones, fl_far, fl_alive, fl_apart, Pd.siM, Pd.seqOf, Pd.asgS, Pd.setS, Pd.dropS, putS, ownIxM, asI, L2.atI, L2.ixN, add_int, d1, m1, m2, hcell, intC, v3]
theorem v_pick {α : Type} (enc : α → PyData) (A : Ads) (ns : List Int) (y k : Int) (hy : 0 ≤ y) (hk : 0 ≤ k ∧ k ≤ 1000000000) (l : List α) (hl : l ≠ []) : ∃ a ∈ l, F__law_pick A [.own (dr ns y k), .da (.list (l.map enc))] = some (.ret (.da (enc a)) (dr ns y (k + 1))) := by
  have hpos : 0 < (l.length : Int) := by
    have := List.length_pos_iff.mpr hl
    omega
  obtain ⟨v, v1, v2, v3⟩ := v_next A ns y k l.length hy hk hpos
  have hlt : v.toNat < l.length := by omega
  have e : v = (v.toNat : Int) := by omega
  have ix := ix_list enc (List.getElem?_eq_getElem hlt)
  rw [← e] at ix
  refine ⟨l[v.toNat], List.getElem_mem _, ?_⟩
  unfold F__law_pick g__law_pick
  simp [Pd.runN, Pd.runF, Pd.seqS, Pd.ifS, Pd.retS, Pd.withE, Pd.andV, Pd.orV, Pd.boolM, Pd.notM, Pd.andM, Pd.orM, Pd.ifM, Pd.isiM, Pd.bindM, Pd.varM, Pd.liftO, Pd.isiD, Pd.tyOfD, Pd.asB, Pd.notV, Pd.chainM, Pd.op2M, Pd.leD, Pd.ltD, Pd.gtD, Pd.geD, Pd.intD, Pd.retM, Pd.outOf, Pd.ownAt, Pd.bltM, Pd.vals, Pd.lenD, Pd.consM, Pd.callM, Pd.ownSlots, Pd.svsOf, Pd.svOf, Pd.setOwn, Pd.nxS, Pd.setM, isOwn_zero, isOwn_succ, isOwn_nil, isOD_zero, isOD_succ, isOD_nil, ownB_free, mrg_free, Pd.wipeE, mergeE_nil, mergeE_cons, Pd.fldM, Pd.fldOf, fl_rooms, fl_sizes, fl_zones, fl_far, fl_alive, fl_apart, Pd.siM, Pd.seqOf, Pd.asgS, Pd.setS, Pd.dropS, ownM, chkM, v3, ix]
theorem v_law_any (A : Ads) (c : Cl) (hc : OkC c) (ns : List Int) (y k : Int) (hy : 0 ≤ y) (hk : 0 ≤ k ∧ k ≤ 999999990) : ∃ s k', InS c s ∧ k ≤ k' ∧ k' ≤ k + 4 ∧ F__law_any A [.own (dr ns y k), .obj A.C (fl c)] = some (.ret (.da (eS s)) (dr ns y k')) := by
  have hs : 0 < (c.sizes.length : Int) := by have := hc.sl; omega
  have hr : 0 < (c.rooms.length : Int) := by have := hc.rl; omega
  obtain ⟨sh, a1, a2, a3⟩ := v_next A ns y k c.sizes.length hy (by omega) hs
  obtain ⟨one, b1, b2, b3⟩ := v_next A ns y (k + 1) c.rooms.length hy (by omega) hr
  obtain ⟨w, d1, d2, d3⟩ := v_next A ns y (k + 1 + 1) 3 hy (by omega) (by decide)
  obtain ⟨tgt, t1, t2, t3⟩ := v_next A ns y (k + 1 + 1 + 1) c.rooms.length hy (by omega) hr
  have e : sh = (sh.toNat : Int) := by omega
  have hsh : sh.toNat < c.sizes.length := by omega
  generalize sh.toNat = n at e hsh
  subst e
  by_cases hw : w = 0
  · refine ⟨.dp n one, k + 1 + 1 + 1, ⟨hsh, b1, b2⟩, by omega, by omega, ?_⟩
    unfold F__law_any g__law_any eS
    simp [Pd.runN, Pd.runF, Pd.seqS, Pd.ifS, Pd.retS, Pd.withE, Pd.andV, Pd.orV, Pd.boolM, Pd.notM, Pd.andM, Pd.orM, Pd.ifM, Pd.isiM, Pd.bindM, Pd.varM, Pd.liftO, Pd.isiD, Pd.tyOfD, Pd.asB, Pd.notV, Pd.chainM, Pd.op2M, Pd.leD, Pd.ltD, Pd.gtD, Pd.geD, Pd.intD, Pd.retM, Pd.outOf, Pd.ownAt, Pd.bltM, Pd.vals, Pd.lenD, Pd.consM, Pd.callM, Pd.ownSlots, Pd.svsOf, Pd.svOf, Pd.setOwn, Pd.nxS, Pd.setM, isOwn_zero, isOwn_succ, isOwn_nil, isOD_zero, isOD_succ, isOD_nil, ownB_free, mrg_free, Pd.wipeE, mergeE_nil, mergeE_cons, Pd.fldM, Pd.fldOf, fl_rooms, fl_sizes, fl_zones, fl_far, fl_alive, fl_apart, Pd.siM, Pd.seqOf, Pd.asgS, Pd.setS, Pd.dropS, ownM, chkM, parS, a3, b3, d3, eqD_int, hw, tupM, datas]
  · refine ⟨.cp n one tgt, k + 1 + 1 + 1 + 1, ⟨hsh, ⟨b1, b2⟩, t1, t2⟩, by omega, by omega, ?_⟩
    unfold F__law_any g__law_any eS
    simp [Pd.runN, Pd.runF, Pd.seqS, Pd.ifS, Pd.retS, Pd.withE, Pd.andV, Pd.orV, Pd.boolM, Pd.notM, Pd.andM, Pd.orM, Pd.ifM, Pd.isiM, Pd.bindM, Pd.varM, Pd.liftO, Pd.isiD, Pd.tyOfD, Pd.asB, Pd.notV, Pd.chainM, Pd.op2M, Pd.leD, Pd.ltD, Pd.gtD, Pd.geD, Pd.intD, Pd.retM, Pd.outOf, Pd.ownAt, Pd.bltM, Pd.vals, Pd.lenD, Pd.consM, Pd.callM, Pd.ownSlots, Pd.svsOf, Pd.svOf, Pd.setOwn, Pd.nxS, Pd.setM, isOwn_zero, isOwn_succ, isOwn_nil, isOD_zero, isOD_succ, isOD_nil, ownB_free, mrg_free, Pd.wipeE, mergeE_nil, mergeE_cons, Pd.fldM, Pd.fldOf, fl_rooms, fl_sizes, fl_zones, fl_far, fl_alive, fl_apart, Pd.siM, Pd.seqOf, Pd.asgS, Pd.setS, Pd.dropS, ownM, chkM, parS, a3, b3, d3, t3, eqD_int, hw, tupM, datas]
end K01
end
section
set_option Elab.async false
set_option linter.all false
set_option maxRecDepth 100000
set_option maxHeartbeats 1000000
namespace K01
open PySem Pd
/-! ### comprehensions that draw; clusters -/
theorem lcGo_st {α β : Type} (enc : α → PyData) (encB : β → PyData) (Q : β → Prop) {vs : List Nat} {g : SV → Mo Unit} {tt : Mo Bool} {te : Mo SV} (E : Nat → PEnv) (N : Nat) :
    ∀ {l : List α} {acc : List PyData} {n : Nat}, n + l.length ≤ N → (∀ n x, n < N → x ∈ l → ∃ y, Q y ∧ stepV vs g tt te (E n) (enc x) = some (some (encB y), E (n + 1))) →
      ∃ ys : List β, ys.length = l.length ∧ (∀ y ∈ ys, Q y) ∧ lcGo vs g tt te (l.map enc) acc (E n) = some (.ok (acc ++ ys.map encB) (E (n + l.length)))
  | [], acc, n, _, _ => ⟨[], rfl, fun y hy => by simp at hy, by simp [lcGo, retM]⟩
  | x :: l, acc, n, hN, h => by
    rw [List.length_cons] at hN
    obtain ⟨y, hq, hd⟩ := h n x (by omega) (.head _)
    obtain ⟨ys, i1, i2, i3⟩ := lcGo_st enc encB Q E N (l := l) (acc := acc ++ [encB y]) (n := n + 1) (by omega) fun n z hn hz => h n z hn (.tail _ hz)
    refine ⟨y :: ys, by simp [i1], fun z hz => (List.mem_cons.mp hz).elim (fun e => e ▸ hq) (i2 z), ?_⟩
    unfold stepV at hd
    rw [List.map_cons]
    unfold lcGo
    split at hd
    · rename_i hv
      rw [if_pos hv]
      split at hd
      · rename_i e1 q1
        try rw [q1]
        try dsimp only
        split at hd
        · rename_i e2 q2
          try rw [q2]
          try dsimp only
          split at hd
          · rename_i y' e3 q3
            try rw [q3]
            try dsimp only
            have hd := Option.some.inj hd
            have h1 : some y' = some (encB y) := congrArg (·.1) hd
            have h2 : mergeE (E n) e3 = E (n + 1) := congrArg (·.2) hd
            cases h1
            rw [h2, i3, List.length_cons]
            have e4 : n + 1 + l.length = n + (l.length + 1) := by omega
            rw [e4]
            simp
          · cases hd
        · rename_i e2 q2
          have hd := Option.some.inj hd
          have h1 : none = some (encB y) := congrArg (·.1) hd
          cases h1
        · cases hd
      · cases hd
    · cases hd
theorem lcM_st {α β : Type} (enc : α → PyData) (encB : β → PyData) (Q : β → Prop) {vs : List Nat} {fi : Mo (List PyData)} {g : SV → Mo Unit} {tt : Mo Bool} {te : Mo SV} {env : PEnv} {l : List α} (E : Nat → PEnv) (hfi : fi env = some (.ok (l.map enc) (E 0))) (hl : l.length ≤ LIM)
    (hs : ∀ n x, n < l.length → x ∈ l → ∃ y, Q y ∧ stepV vs g tt te (E n) (enc x) = some (some (encB y), E (n + 1))) :
    ∃ ys : List β, ys.length = l.length ∧ (∀ y ∈ ys, Q y) ∧ lcM vs fi g tt te env = some (.ok (.da (.list (ys.map encB))) (E l.length)) := by
  obtain ⟨ys, i1, i2, i3⟩ := lcGo_st enc encB Q (vs := vs) (g := g) (tt := tt) (te := te) E l.length (l := l) (acc := []) (n := 0) (by omega) hs
  refine ⟨ys, i1, i2, ?_⟩
  unfold lcM Pd.bindM
  rw [hfi]
  dsimp only
  rw [if_pos (by rw [List.length_map]; exact hl)]
  simp only [liftO]
  rw [i3]
  simp [retM]
theorem all_numOk {lo hi : Int} {l : List Int} (h : ∀ x ∈ l, lo ≤ x ∧ x ≤ hi) : (l.map PyData.int).all (numOk lo hi) = true := by
  rw [List.all_eq_true]
  intro d hd
  obtain ⟨x, hx, rfl⟩ := List.mem_map.mp hd
  exact decide_eq_true (h x hx)
section
variable (A : Ads) (sc : List Int) (y : Int) (hy : 0 ≤ y)
include hy
theorem w_spaces (k : Int) (hk : 0 ≤ k ∧ k ≤ 999999000) (m : Nat) (hm : m ≤ 10) (z2 z3 z5 z6 z7 z8 : Option SV) (n2 : free z2 = true) (n3 : free z3 = true) (n5 : free z5 = true) (n6 : free z6 = true) (n7 : free z7 = true) (n8 : free z8 = true) :
    ∃ xs : List Int, xs.length = m ∧ (∀ x ∈ xs, 1 ≤ x ∧ x ≤ 5) ∧ c0__law_cluster A [some (.own (dr sc y k)), some (.da (.int m)), z2, z3, none, z5, z6, z7, z8] = some (.ok (.da (.list (xs.map .int))) [some (.own (dr sc y (k + m))), some (.da (.int m)), z2, z3, none, z5, z6, z7, z8]) := by
  obtain ⟨xs, h1, h2, h3⟩ := lcM_st PyData.int PyData.int (fun x => 1 ≤ x ∧ x ≤ 5) (vs := [4]) (fi := rg1M (consM (varM 1) (retM []))) (g := setM 4) (tt := retM true) (te := (op2M addD (retM (.da (.int 1))) (Pd.bindM (ownM 0 (consM (retM (.da (.int 5))) (retM []))) (callM (F__law_next A)))))
    (env := [some (.own (dr sc y k)), some (.da (.int m)), z2, z3, none, z5, z6, z7, z8]) (l := ns m) (fun n => [some (.own (dr sc y (k + n))), some (.da (.int m)), z2, z3, none, z5, z6, z7, z8])
    (by
      have h1 : (-1000000 : Int) ≤ m := by omega
      have h2 : (m : Int) ≤ 1000000 := by omega
      simp [Pd.runN, Pd.runF, Pd.seqS, Pd.ifS, Pd.retS, Pd.withE, Pd.andV, Pd.orV, Pd.boolM, Pd.notM, Pd.andM, Pd.orM, Pd.ifM, Pd.isiM, Pd.bindM, Pd.varM, Pd.liftO, Pd.isiD, Pd.tyOfD, Pd.asB, Pd.notV, Pd.chainM, Pd.op2M, Pd.leD, Pd.ltD, Pd.gtD, Pd.geD, Pd.intD, Pd.retM, Pd.outOf, Pd.ownAt, Pd.bltM, Pd.vals, Pd.lenD, Pd.consM, Pd.callM, Pd.ownSlots, Pd.svsOf, Pd.svOf, Pd.setOwn, Pd.nxS, Pd.setM, isOwn_zero, isOwn_succ, isOwn_nil, isOD_zero, isOD_succ, isOD_nil, ownB_free, mrg_free, Pd.wipeE, mergeE_nil, mergeE_cons, Pd.fldM, Pd.fldOf, fl_rooms, fl_sizes, fl_zones, fl_far, fl_alive, fl_apart, Pd.siM, Pd.seqOf, Pd.asgS, Pd.setS, Pd.dropS, rg1M, rangeD1, h1, h2, rangeL_ns]) (by rw [ns_len]; unfold LIM; omega) (fun n x hn _ => by
      rw [ns_len] at hn
      obtain ⟨v, v1, v2, v3⟩ := v_next A sc y (k + n) 5 hy (by omega) (by decide)
      refine ⟨1 + v, by omega, ?_⟩
      have e : k + (n : Int) + 1 = k + ((n + 1 : Nat) : Int) := by omega
      rw [e] at v3
      unfold stepV
      simp [Pd.runN, Pd.runF, Pd.seqS, Pd.ifS, Pd.retS, Pd.withE, Pd.andV, Pd.orV, Pd.boolM, Pd.notM, Pd.andM, Pd.orM, Pd.ifM, Pd.isiM, Pd.bindM, Pd.varM, Pd.liftO, Pd.isiD, Pd.tyOfD, Pd.asB, Pd.notV, Pd.chainM, Pd.op2M, Pd.leD, Pd.ltD, Pd.gtD, Pd.geD, Pd.intD, Pd.retM, Pd.outOf, Pd.ownAt, Pd.bltM, Pd.vals, Pd.lenD, Pd.consM, Pd.callM, Pd.ownSlots, Pd.svsOf, Pd.svOf, Pd.setOwn, Pd.nxS, Pd.setM, isOwn_zero, isOwn_succ, isOwn_nil, isOD_zero, isOD_succ, isOD_nil, ownB_free, mrg_free, Pd.wipeE, mergeE_nil, mergeE_cons, Pd.fldM, Pd.fldOf, fl_rooms, fl_sizes, fl_zones, fl_far, fl_alive, fl_apart, Pd.siM, Pd.seqOf, Pd.asgS, Pd.setS, Pd.dropS, ownM, chkM, v3, add_int, n2, n3, n5, n6, n7, n8])
  rw [ns_len] at h1 h3
  exact ⟨xs, h1, h2, h3⟩
theorem w_bulks (k : Int) (hk : 0 ≤ k ∧ k ≤ 999999000) (z1 z2 z3 z5 z6 z7 z8 : Option SV) (n1 : free z1 = true) (n2 : free z2 = true) (n3 : free z3 = true) (n5 : free z5 = true) (n6 : free z6 = true) (n7 : free z7 = true) (n8 : free z8 = true) :
    ∃ (xs : List Int) (k' : Int), (1 ≤ xs.length ∧ xs.length ≤ 3) ∧ (∀ x ∈ xs, 1 ≤ x ∧ x ≤ 3) ∧ k ≤ k' ∧ k' ≤ k + 10 ∧ c1__law_cluster A [some (.own (dr sc y k)), z1, z2, z3, none, z5, z6, z7, z8] = some (.ok (.da (.list (xs.map .int))) [some (.own (dr sc y k')), z1, z2, z3, none, z5, z6, z7, z8]) := by
  obtain ⟨u, u1, u2, u3⟩ := v_next A sc y k 3 hy (by omega) (by decide)
  have eu : 1 + u = ((1 + u).toNat : Int) := by omega
  have eb : 1 ≤ (1 + u).toNat ∧ (1 + u).toNat ≤ 3 := by omega
  generalize (1 + u).toNat = m at eu eb
  obtain ⟨xs, h1, h2, h3⟩ := lcM_st PyData.int PyData.int (fun x => 1 ≤ x ∧ x ≤ 3) (vs := [4]) (fi := (rg1M (consM (op2M addD (retM (.da (.int 1))) (Pd.bindM (ownM 0 (consM (retM (.da (.int 3))) (retM []))) (callM (F__law_next A)))) (retM [])))) (g := setM 4) (tt := retM true) (te := (op2M addD (retM (.da (.int 1))) (Pd.bindM (ownM 0 (consM (retM (.da (.int 3))) (retM []))) (callM (F__law_next A)))))
    (env := [some (.own (dr sc y k)), z1, z2, z3, none, z5, z6, z7, z8]) (l := ns m) (fun n => [some (.own (dr sc y (k + 1 + n))), z1, z2, z3, none, z5, z6, z7, z8])
    (by
      have h1 : (-1000000 : Int) ≤ m := by omega
      have h2 : (m : Int) ≤ 1000000 := by omega
      simp [Pd.runN, Pd.runF, Pd.seqS, Pd.ifS, Pd.retS, Pd.withE, Pd.andV, Pd.orV, Pd.boolM, Pd.notM, Pd.andM, Pd.orM, Pd.ifM, Pd.isiM, Pd.bindM, Pd.varM, Pd.liftO, Pd.isiD, Pd.tyOfD, Pd.asB, Pd.notV, Pd.chainM, Pd.op2M, Pd.leD, Pd.ltD, Pd.gtD, Pd.geD, Pd.intD, Pd.retM, Pd.outOf, Pd.ownAt, Pd.bltM, Pd.vals, Pd.lenD, Pd.consM, Pd.callM, Pd.ownSlots, Pd.svsOf, Pd.svOf, Pd.setOwn, Pd.nxS, Pd.setM, isOwn_zero, isOwn_succ, isOwn_nil, isOD_zero, isOD_succ, isOD_nil, ownB_free, mrg_free, Pd.wipeE, mergeE_nil, mergeE_cons, Pd.fldM, Pd.fldOf, fl_rooms, fl_sizes, fl_zones, fl_far, fl_alive, fl_apart, Pd.siM, Pd.seqOf, Pd.asgS, Pd.setS, Pd.dropS, rg1M, rangeD1, h1, h2, rangeL_ns, ownM, chkM, u3, add_int, eu]) (by rw [ns_len]; unfold LIM; omega) (fun n x hn _ => by
      rw [ns_len] at hn
      obtain ⟨v, v1, v2, v3⟩ := v_next A sc y (k + 1 + n) 3 hy (by omega) (by decide)
      refine ⟨1 + v, by omega, ?_⟩
      have e : k + 1 + (n : Int) + 1 = k + 1 + ((n + 1 : Nat) : Int) := by omega
      rw [e] at v3
      unfold stepV
      simp [Pd.runN, Pd.runF, Pd.seqS, Pd.ifS, Pd.retS, Pd.withE, Pd.andV, Pd.orV, Pd.boolM, Pd.notM, Pd.andM, Pd.orM, Pd.ifM, Pd.isiM, Pd.bindM, Pd.varM, Pd.liftO, Pd.isiD, Pd.tyOfD, Pd.asB, Pd.notV, Pd.chainM, Pd.op2M, Pd.leD, Pd.ltD, Pd.gtD, Pd.geD, Pd.intD, Pd.retM, Pd.outOf, Pd.ownAt, Pd.bltM, Pd.vals, Pd.lenD, Pd.consM, Pd.callM, Pd.ownSlots, Pd.svsOf, Pd.svOf, Pd.setOwn, Pd.nxS, Pd.setM, isOwn_zero, isOwn_succ, isOwn_nil, isOD_zero, isOD_succ, isOD_nil, ownB_free, mrg_free, Pd.wipeE, mergeE_nil, mergeE_cons, Pd.fldM, Pd.fldOf, fl_rooms, fl_sizes, fl_zones, fl_far, fl_alive, fl_apart, Pd.siM, Pd.seqOf, Pd.asgS, Pd.setS, Pd.dropS, ownM, chkM, v3, add_int, n1, n2, n3, n5, n6, n7, n8])
  rw [ns_len] at h1 h3
  exact ⟨xs, k + 1 + m, by omega, h2, by omega, by omega, h3⟩
theorem w_areas (k : Int) (hk : 0 ≤ k ∧ k ≤ 999999000) (m : Nat) (hm : m ≤ 10) (z2 z3 z5 z6 z7 z8 : Option SV) (n2 : free z2 = true) (n3 : free z3 = true) (n5 : free z5 = true) (n6 : free z6 = true) (n7 : free z7 = true) (n8 : free z8 = true) :
    ∃ xs : List Int, xs.length = m ∧ (∀ x ∈ xs, 0 ≤ x ∧ x ≤ 3) ∧ c2__law_cluster A [some (.own (dr sc y k)), some (.da (.int m)), z2, z3, none, z5, z6, z7, z8] = some (.ok (.da (.list (xs.map .int))) [some (.own (dr sc y (k + m))), some (.da (.int m)), z2, z3, none, z5, z6, z7, z8]) := by
  obtain ⟨xs, h1, h2, h3⟩ := lcM_st PyData.int PyData.int (fun x => 0 ≤ x ∧ x ≤ 3) (vs := [4]) (fi := rg1M (consM (varM 1) (retM []))) (g := setM 4) (tt := retM true) (te := (Pd.bindM (ownM 0 (consM (retM (.da (.int 3))) (retM []))) (callM (F__law_next A))))
    (env := [some (.own (dr sc y k)), some (.da (.int m)), z2, z3, none, z5, z6, z7, z8]) (l := ns m) (fun n => [some (.own (dr sc y (k + n))), some (.da (.int m)), z2, z3, none, z5, z6, z7, z8])
    (by
      have h1 : (-1000000 : Int) ≤ m := by omega
      have h2 : (m : Int) ≤ 1000000 := by omega
      simp [Pd.runN, Pd.runF, Pd.seqS, Pd.ifS, Pd.retS, Pd.withE, Pd.andV, Pd.orV, Pd.boolM, Pd.notM, Pd.andM, Pd.orM, Pd.ifM, Pd.isiM, Pd.bindM, Pd.varM, Pd.liftO, Pd.isiD, Pd.tyOfD, Pd.asB, Pd.notV, Pd.chainM, Pd.op2M, Pd.leD, Pd.ltD, Pd.gtD, Pd.geD, Pd.intD, Pd.retM, Pd.outOf, Pd.ownAt, Pd.bltM, Pd.vals, Pd.lenD, Pd.consM, Pd.callM, Pd.ownSlots, Pd.svsOf, Pd.svOf, Pd.setOwn, Pd.nxS, Pd.setM, isOwn_zero, isOwn_succ, isOwn_nil, isOD_zero, isOD_succ, isOD_nil, ownB_free, mrg_free, Pd.wipeE, mergeE_nil, mergeE_cons, Pd.fldM, Pd.fldOf, fl_rooms, fl_sizes, fl_zones, fl_far, fl_alive, fl_apart, Pd.siM, Pd.seqOf, Pd.asgS, Pd.setS, Pd.dropS, rg1M, rangeD1, h1, h2, rangeL_ns]) (by rw [ns_len]; unfold LIM; omega) (fun n x hn _ => by
      rw [ns_len] at hn
      obtain ⟨v, v1, v2, v3⟩ := v_next A sc y (k + n) 3 hy (by omega) (by decide)
      refine ⟨v, by omega, ?_⟩
      have e : k + (n : Int) + 1 = k + ((n + 1 : Nat) : Int) := by omega
      rw [e] at v3
      unfold stepV
      simp [Pd.runN, Pd.runF, Pd.seqS, Pd.ifS, Pd.retS, Pd.withE, Pd.andV, Pd.orV, Pd.boolM, Pd.notM, Pd.andM, Pd.orM, Pd.ifM, Pd.isiM, Pd.bindM, Pd.varM, Pd.liftO, Pd.isiD, Pd.tyOfD, Pd.asB, Pd.notV, Pd.chainM, Pd.op2M, Pd.leD, Pd.ltD, Pd.gtD, Pd.geD, Pd.intD, Pd.retM, Pd.outOf, Pd.ownAt, Pd.bltM, Pd.vals, Pd.lenD, Pd.consM, Pd.callM, Pd.ownSlots, Pd.svsOf, Pd.svOf, Pd.setOwn, Pd.nxS, Pd.setM, isOwn_zero, isOwn_succ, isOwn_nil, isOD_zero, isOD_succ, isOD_nil, ownB_free, mrg_free, Pd.wipeE, mergeE_nil, mergeE_cons, Pd.fldM, Pd.fldOf, fl_rooms, fl_sizes, fl_zones, fl_far, fl_alive, fl_apart, Pd.siM, Pd.seqOf, Pd.asgS, Pd.setS, Pd.dropS, ownM, chkM, v3, add_int, n2, n3, n5, n6, n7, n8])
  rw [ns_len] at h1 h3
  exact ⟨xs, h1, h2, h3⟩
theorem v_law_cluster (k : Int) (hk : 0 ≤ k ∧ k ≤ 999990000) : ∃ (c : Cl) (k' : Int), OkC c ∧ OkF c ∧ k ≤ k' ∧ k' ≤ k + 50 ∧ F__law_cluster A [.own (dr sc y k)] = some (.ret (.obj A.C (fl c)) (dr sc y k')) := by
  obtain ⟨u, u1, u2, u3⟩ := v_next A sc y k 2 hy (by omega) (by decide)
  have eu : 2 + u = ((2 + u).toNat : Int) := by omega
  have eb : 2 ≤ (2 + u).toNat ∧ (2 + u).toNat ≤ 3 := by omega
  generalize (2 + u).toNat = m at eu eb
  obtain ⟨w, w1, w2, w3⟩ := v_next A sc y (k + 1) 4 hy (by omega) (by decide)
  have hal : ∃ al : Int, (1 ≤ al ∧ al ≤ 2) ∧ al = 1 + (if w = 0 then 1 else 0) := ⟨_, by split <;> omega, rfl⟩
  obtain ⟨al, hal1, hal2⟩ := hal
  obtain ⟨rs, r1, r2, r3⟩ := w_spaces A sc y hy (k + 1 + 1) (by omega) m (by omega) (some (.da (.int al))) none none none none none rfl rfl rfl rfl rfl rfl
  obtain ⟨ss, k1, s1, s2, s3, s4, s5⟩ := w_bulks A sc y hy (k + 1 + 1 + m) (by omega) (some (.da (.int m))) (some (.da (.int al))) (some (.da (tupI rs))) none none none none rfl rfl rfl rfl rfl rfl rfl
  obtain ⟨zs, z1, z2, z3⟩ := w_areas A sc y hy k1 (by omega) m (by omega) (some (.da (.int al))) (some (.da (tupI rs))) (some (.da (tupI ss))) none none none rfl rfl rfl rfl rfl rfl
  obtain ⟨f, f1, f2, f3⟩ := v_next A sc y (k1 + m) 3 hy (by omega) (by decide)
  obtain ⟨q, q1, q2, q3⟩ := v_next A sc y (k1 + m + 1) 4 hy (by omega) (by decide)
  have n1 : (rs.map PyData.int).all (numOk 1 6) = true := all_numOk fun x hx => by have := r2 x hx; omega
  have n2 : (ss.map PyData.int).all (numOk 1 3) = true := all_numOk s2
  have n3 : (zs.map PyData.int).all (numOk 0 3) = true := all_numOk z2
  have n4 : numOk 1 3 (.int (1 + f)) = true := decide_eq_true (by omega)
  have n5 : numOk 1 2 (.int al) = true := decide_eq_true hal1
  have hmk : F_Cluster [.da (tupI rs), .da (tupI ss), .da (tupI zs), .da (.int (1 + f)), .da (.int al), .da (.bool (decide (q = 0)))] = some (fl ⟨rs, ss, zs, 1 + f, al, decide (q = 0)⟩) := by
    unfold tupI F_Cluster
    have e1 : decide (2 ≤ (rs.map PyData.int).length ∧ (rs.map PyData.int).length ≤ 4) = true := decide_eq_true (by rw [List.length_map]; omega)
    have e2 : decide (1 ≤ (ss.map PyData.int).length ∧ (ss.map PyData.int).length ≤ 4) = true := decide_eq_true (by rw [List.length_map]; omega)
    have e3 : decide ((zs.map PyData.int).length = (rs.map PyData.int).length) = true := decide_eq_true (by rw [List.length_map, List.length_map]; omega)
    simp only [n1, n2, n3, n4, n5, e1, e2, e3, Bool.and_self, if_true]
    rfl
  refine ⟨⟨rs, ss, zs, 1 + f, al, decide (q = 0)⟩, k1 + m + 1 + 1, ⟨by show zs.length = rs.length; omega, by show 2 ≤ rs.length ∧ rs.length ≤ 3; omega, s1, fun s hs => (s2 s hs).1, hal1⟩, ⟨by show 1 ≤ 1 + f ∧ 1 + f ≤ 3; omega, fun s hs => (s2 s hs).2⟩, by omega, by omega, ?_⟩
  have hif : (if w = 0 then (1 : Int) else 0) = al - 1 := by omega
  unfold F__law_cluster g__law_cluster
  by_cases hw : w = 0
  · have hal3 : al = 2 := by rw [hal2, if_pos hw]; rfl
    subst hal3
    simp [Pd.runN, Pd.runF, Pd.seqS, Pd.ifS, Pd.retS, Pd.withE, Pd.andV, Pd.orV, Pd.boolM, Pd.notM, Pd.andM, Pd.orM, Pd.ifM, Pd.isiM, Pd.bindM, Pd.varM, Pd.liftO, Pd.isiD, Pd.tyOfD, Pd.asB, Pd.notV, Pd.chainM, Pd.op2M, Pd.leD, Pd.ltD, Pd.gtD, Pd.geD, Pd.intD, Pd.retM, Pd.outOf, Pd.ownAt, Pd.bltM, Pd.vals, Pd.lenD, Pd.consM, Pd.callM, Pd.ownSlots, Pd.svsOf, Pd.svOf, Pd.setOwn, Pd.nxS, Pd.setM, isOwn_zero, isOwn_succ, isOwn_nil, isOD_zero, isOD_succ, isOD_nil, ownB_free, mrg_free, Pd.wipeE, mergeE_nil, mergeE_cons, Pd.fldM, Pd.fldOf, fl_rooms, fl_sizes, fl_zones, fl_far, fl_alive, fl_apart, Pd.siM, Pd.seqOf, Pd.asgS, Pd.setS, Pd.dropS, ownM, chkM, parS, u3, add_int, w3, eqD_int, hw, eu, r3, tuple_ints, s5, z3, f3, q3, makeKM, hmk]
  · have hal3 : al = 1 := by rw [hal2, if_neg hw]; rfl
    subst hal3
    simp [Pd.runN, Pd.runF, Pd.seqS, Pd.ifS, Pd.retS, Pd.withE, Pd.andV, Pd.orV, Pd.boolM, Pd.notM, Pd.andM, Pd.orM, Pd.ifM, Pd.isiM, Pd.bindM, Pd.varM, Pd.liftO, Pd.isiD, Pd.tyOfD, Pd.asB, Pd.notV, Pd.chainM, Pd.op2M, Pd.leD, Pd.ltD, Pd.gtD, Pd.geD, Pd.intD, Pd.retM, Pd.outOf, Pd.ownAt, Pd.bltM, Pd.vals, Pd.lenD, Pd.consM, Pd.callM, Pd.ownSlots, Pd.svsOf, Pd.svOf, Pd.setOwn, Pd.nxS, Pd.setM, isOwn_zero, isOwn_succ, isOwn_nil, isOD_zero, isOD_succ, isOD_nil, ownB_free, mrg_free, Pd.wipeE, mergeE_nil, mergeE_cons, Pd.fldM, Pd.fldOf, fl_rooms, fl_sizes, fl_zones, fl_far, fl_alive, fl_apart, Pd.siM, Pd.seqOf, Pd.asgS, Pd.setS, Pd.dropS, ownM, chkM, parS, u3, add_int, w3, eqD_int, hw, eu, r3, tuple_ints, s5, z3, f3, q3, makeKM, hmk]
end
end K01
end
section
set_option Elab.async false
set_option linter.all false
set_option maxRecDepth 100000
set_option maxHeartbeats 1000000
namespace K01
open PySem Pd
/-! ### the law's checks -/
def bad : PyData := .tuple [.str "bad", .none]
theorem pl_bad : Pln 1 bad := .tuple fun x hx => by
  simp only [List.mem_cons, List.not_mem_nil, or_false] at hx
  rcases hx with rfl | rfl
  · exact .str (by decide +kernel)
  · exact .non
theorem pl_badI (i : Int) : Pln 1 (.tuple [.str "bad", .int i]) := .tuple fun x hx => by
  simp only [List.mem_cons, List.not_mem_nil, or_false] at hx
  rcases hx with rfl | rfl
  · exact .str (by decide +kernel)
  · exact .int i
theorem eqD_self {k : Nat} {d : PyData} (h : Pln k d) (hk : k ≤ 64 := by decide) : eqD (.da d) (.da d) = some (.da (.bool true)) := by
  have := (eqv_pln h h).mpr rfl
  simp only [eqD, h.shaped hk, this, Bool.and_self, if_true]
theorem neD_self {k : Nat} {d : PyData} (h : Pln k d) (hk : k ≤ 64 := by decide) : neD (.da d) (.da d) = some (.da (.bool false)) := by
  have := (eqv_pln h h).mpr rfl
  simp only [neD, h.shaped hk, this, Bool.and_self, if_true, Bool.not_true]
theorem neD_bool (a b : Bool) : neD (.da (.bool a)) (.da (.bool b)) = some (.da (.bool (a != b))) := by
  have h : ∀ x, SeqAt.shaped (.bool x) = true := fun x => by cases x <;> rfl
  simp only [neD, h, PyData.eqv, Bool.and_self, if_true]
  rfl
def eQ (q : P' × Int) : PyData := .tuple [eP q.1, .int q.2]
theorem Pln.up {k : Nat} {d : PyData} (h : Pln k d) : Pln (k + 1) d := by
  induction h with
  | non => exact .non
  | int i => exact .int i
  | str h => exact .str h
  | list _ ih => exact .list ih
  | tuple _ ih => exact .tuple ih
theorem encQ : Enc eQ 3 := by
  refine ⟨fun q => .tuple fun x hx => ?_, fun a b e => ?_⟩
  · simp only [List.mem_cons, List.not_mem_nil, or_false] at hx
    rcases hx with rfl | rfl
    · exact encP.pl _
    · exact .int _
  · unfold eQ at e
    simp only [PyData.tuple.injEq, List.cons.injEq, PyData.int.injEq, and_true] at e
    exact Prod.ext (encP.inj _ _ e.1) e.2
theorem encL (c : Cl) : Enc (eL c) 3 := by
  refine ⟨fun q => .tuple fun x hx => ?_, fun a b e => ?_⟩
  · simp only [List.mem_cons, List.not_mem_nil, or_false] at hx
    rcases hx with rfl | rfl | rfl
    · exact (encS.pl _).up
    · exact encP.pl _
    · exact .int _
  · unfold eL at e
    simp only [PyData.tuple.injEq, List.cons.injEq, and_true] at e
    exact Prod.ext (encS.inj _ _ e.1) (encP.inj _ _ e.2.1)
section
variable (A : Ads) (c : Cl) (hc : OkC c) (hF : OkF c)
include hc hF
theorem v_step_right (p : P') (h : Pl c p) (s : Stp) (hs : InS c s) : F__law_step_right A [.obj A.C (fl c), .da (eP p), .da (eS s)] = some (.ret (.da (.bool true)) []) := by
  have hm := v_law_moves A c hc hF p h
  have ml := mvs_len hc h
  have w : c0__law_step_right A [some (.obj A.C (fl c)), some (.da (eP p)), some (.da (eS s)), some (.da (.list ((mvs c p).map (eL c)))), none, none, none, none, none] =
      some (.ok (.da (.list ((((mvs c p).filter fun r => decide (r.1 = s)).map fun r => (r.2, pr c r.1)).map eQ))) [some (.obj A.C (fl c)), some (.da (eP p)), some (.da (eS s)), some (.da (.list ((mvs c p).map (eL c)))), none, none, none, none, none]) := by
    unfold c0__law_step_right
    rw [lcM_tl (eL c) (l := mvs c p) (fun r => if decide (r.1 = s) = true then some (eQ (r.2, pr c r.1)) else none) (by rfl) (by unfold LIM; omega) (fun r hr => ?_), filterMap_ite, List.map_map]
    · rfl
    · have := encS.eqD r.1 s
      unfold stepV eL
      by_cases hrs : r.1 = s
      · subst hrs
        simp [Pd.runN, Pd.runF, Pd.seqS, Pd.ifS, Pd.retS, Pd.withE, Pd.andV, Pd.orV, Pd.boolM, Pd.notM, Pd.andM, Pd.orM, Pd.ifM, Pd.isiM, Pd.bindM, Pd.varM, Pd.liftO, Pd.isiD, Pd.tyOfD, Pd.asB, Pd.notV, Pd.chainM, Pd.op2M, Pd.leD, Pd.ltD, Pd.gtD, Pd.geD, Pd.intD, Pd.retM, Pd.outOf, Pd.ownAt, Pd.bltM, Pd.vals, Pd.lenD, Pd.consM, Pd.callM, Pd.ownSlots, Pd.svsOf, Pd.svOf, Pd.setOwn, Pd.nxS, Pd.setM, isOwn_zero, isOwn_succ, isOwn_nil, isOD_zero, isOD_succ, isOD_nil, ownB_free, mrg_free, Pd.wipeE, mergeE_nil, mergeE_cons, Pd.fldM, Pd.fldOf, fl_rooms, fl_sizes, fl_zones, fl_far, fl_alive, fl_apart, Pd.siM, Pd.seqOf, Pd.asgS, Pd.setS, Pd.dropS, tupG, consG, nilG, this, tupM, datas, eQ]
      · simp [Pd.runN, Pd.runF, Pd.seqS, Pd.ifS, Pd.retS, Pd.withE, Pd.andV, Pd.orV, Pd.boolM, Pd.notM, Pd.andM, Pd.orM, Pd.ifM, Pd.isiM, Pd.bindM, Pd.varM, Pd.liftO, Pd.isiD, Pd.tyOfD, Pd.asB, Pd.notV, Pd.chainM, Pd.op2M, Pd.leD, Pd.ltD, Pd.gtD, Pd.geD, Pd.intD, Pd.retM, Pd.outOf, Pd.ownAt, Pd.bltM, Pd.vals, Pd.lenD, Pd.consM, Pd.callM, Pd.ownSlots, Pd.svsOf, Pd.svOf, Pd.setOwn, Pd.nxS, Pd.setM, isOwn_zero, isOwn_succ, isOwn_nil, isOD_zero, isOD_succ, isOD_nil, ownB_free, mrg_free, Pd.wipeE, mergeE_nil, mergeE_cons, Pd.fldM, Pd.fldOf, fl_rooms, fl_sizes, fl_zones, fl_far, fl_alive, fl_apart, Pd.siM, Pd.seqOf, Pd.asgS, Pd.setS, Pd.dropS, tupG, consG, nilG, this, hrs]
  have hne := encQ.list.neD (((mvs c p).filter fun r => decide (r.1 = s)).map fun r => (r.2, pr c r.1)) []
  have va := v_after A c hc p h s hs
  have vp := v_price A c hc hF p h s hs
  cases hp : pa c p s with
  | none =>
    have hnil : (((mvs c p).filter fun r => decide (r.1 = s)).map fun r => (r.2, pr c r.1)) = [] := by
      rw [List.map_eq_nil_iff, List.filter_eq_nil_iff]
      rintro ⟨s', q⟩ hr he
      have := (mvs_iff hc h).mp hr
      have he : s' = s := of_decide_eq_true he
      rw [he, hp] at this
      cases this.2
    rw [hnil] at w hne
    rw [hp] at va vp
    generalize hM : (mvs c p).map (eL c) = M at *
    have n1 := neD_self pl_bad
    have n2 := eqD_self pl_bad
    have ix0 : ∀ x y : PyData, ixD (.da (.tuple [x, y])) (.da (.int 0)) = some (.da x) := fun _ _ => rfl
    have ix1 : ∀ x y : PyData, ixD (.da (.tuple [x, y])) (.da (.int 1)) = some (.da y) := fun _ _ => rfl
    simp only [List.map_nil] at w hne
    unfold bad at n1 n2
    unfold F__law_step_right g__law_step_right
    simp [Pd.runN, Pd.runF, Pd.seqS, Pd.ifS, Pd.retS, Pd.withE, Pd.andV, Pd.orV, Pd.boolM, Pd.notM, Pd.andM, Pd.orM, Pd.ifM, Pd.isiM, Pd.bindM, Pd.varM, Pd.liftO, Pd.isiD, Pd.tyOfD, Pd.asB, Pd.notV, Pd.chainM, Pd.op2M, Pd.leD, Pd.ltD, Pd.gtD, Pd.geD, Pd.intD, Pd.retM, Pd.outOf, Pd.ownAt, Pd.bltM, Pd.vals, Pd.lenD, Pd.consM, Pd.callM, Pd.ownSlots, Pd.svsOf, Pd.svOf, Pd.setOwn, Pd.nxS, Pd.setM, isOwn_zero, isOwn_succ, isOwn_nil, isOD_zero, isOD_succ, isOD_nil, ownB_free, mrg_free, Pd.wipeE, mergeE_nil, mergeE_cons, Pd.fldM, Pd.fldOf, fl_rooms, fl_sizes, fl_zones, fl_far, fl_alive, fl_apart, Pd.siM, Pd.seqOf, Pd.asgS, Pd.setS, Pd.dropS, hm, w, lstM, tupM, datas, hne, toldB, blind, va, vp, resO, ix0, ix1, n1, n2]
  | some q =>
    have hcons : ∃ L, (((mvs c p).filter fun r => decide (r.1 = s)).map fun r => (r.2, pr c r.1)) = (q, pr c s) :: L := by
      have hmem : (s, q) ∈ (mvs c p).filter fun r => decide (r.1 = s) := List.mem_filter.mpr ⟨(mvs_iff hc h).mpr ⟨hs, hp⟩, by simp⟩
      cases hL : (mvs c p).filter fun r => decide (r.1 = s) with
      | nil => rw [hL] at hmem; cases hmem
      | cons r L =>
        have hr : r ∈ (mvs c p).filter fun r => decide (r.1 = s) := by rw [hL]; exact .head _
        obtain ⟨h1, h2⟩ := List.mem_filter.mp hr
        have h2 := of_decide_eq_true h2
        obtain ⟨s', q'⟩ := r
        have h2 : s' = s := h2
        subst h2
        have := ((mvs_iff hc h).mp h1).2
        rw [hp] at this
        cases this
        exact ⟨_, List.map_cons⟩
    obtain ⟨L, hL⟩ := hcons
    rw [hL] at w hne
    rw [hp] at va vp
    generalize hM : (mvs c p).map (eL c) = M at *
    have n1 := neD_self (encP.pl q)
    have n2 := eqD_int (pr c s) (pr c s)
    have ix : ixD (.da (.list (((q, pr c s) :: L).map eQ))) (.da (.int 0)) = some (.da (eQ (q, pr c s))) := ix_list eQ (k := 0) rfl
    generalize hX : ((q, pr c s) :: L).map eQ = X at *
    have hd : decide (((q, pr c s) :: L) = []) = false := by simp
    rw [hd] at hne
    have ix0 : ∀ x y : PyData, ixD (.da (.tuple [x, y])) (.da (.int 0)) = some (.da x) := fun _ _ => rfl
    have ix1 : ∀ x y : PyData, ixD (.da (.tuple [x, y])) (.da (.int 1)) = some (.da y) := fun _ _ => rfl
    simp only [List.map_nil] at w hne
    unfold eQ at ix
    unfold F__law_step_right g__law_step_right
    simp [Pd.runN, Pd.runF, Pd.seqS, Pd.ifS, Pd.retS, Pd.withE, Pd.andV, Pd.orV, Pd.boolM, Pd.notM, Pd.andM, Pd.orM, Pd.ifM, Pd.isiM, Pd.bindM, Pd.varM, Pd.liftO, Pd.isiD, Pd.tyOfD, Pd.asB, Pd.notV, Pd.chainM, Pd.op2M, Pd.leD, Pd.ltD, Pd.gtD, Pd.geD, Pd.intD, Pd.retM, Pd.outOf, Pd.ownAt, Pd.bltM, Pd.vals, Pd.lenD, Pd.consM, Pd.callM, Pd.ownSlots, Pd.svsOf, Pd.svOf, Pd.setOwn, Pd.nxS, Pd.setM, isOwn_zero, isOwn_succ, isOwn_nil, isOD_zero, isOD_succ, isOD_nil, ownB_free, mrg_free, Pd.wipeE, mergeE_nil, mergeE_cons, Pd.fldM, Pd.fldOf, fl_rooms, fl_sizes, fl_zones, fl_far, fl_alive, fl_apart, Pd.siM, Pd.seqOf, Pd.asgS, Pd.setS, Pd.dropS, hm, w, lstM, tupM, datas, hne, toldB, blind, va, vp, resO, ix, ix0, ix1, n1, n2]
end
end K01
end
section
set_option Elab.async false
set_option linter.all false
set_option maxRecDepth 100000
set_option maxHeartbeats 1000000
namespace K01
open PySem Pd
theorem add_list {α : Type} (enc : α → PyData) (a b : List α) (h : a.length + b.length ≤ LIM) : addD (.da (.list (a.map enc))) (.da (.list (b.map enc))) = some (.da (.list ((a ++ b).map enc))) := by
  simp only [addD, List.length_map, if_pos h, List.map_append]
theorem slice_takeL {α : Type} (enc : α → PyData) (p : List α) (k : Nat) : sliceD (.da (.list (p.map enc))) none (some (k : Int)) = some (.da (.list ((p.take k).map enc))) := by
  simp only [sliceD, cut_take, List.map_take]
theorem slice_dropL {α : Type} (enc : α → PyData) (p : List α) (k : Nat) : sliceD (.da (.list (p.map enc))) (some (k : Int)) none = some (.da (.list ((p.drop k).map enc))) := by
  simp only [sliceD, cut_drop, List.map_drop]
theorem lastP_get (p : P') : ∀ (L : List P') (n : Nat) (h : n < (p :: L).length), lastP p (L.take n) = (p :: L)[n]
  | [], 0, h => rfl
  | [], n + 1, h => by simp at h
  | q :: L, 0, h => rfl
  | q :: L, n + 1, h => by
    rw [List.take_succ_cons, lastP_cons]
    exact lastP_get q L n (by simpa using h)
theorem add_one {α : Type} (enc : α → PyData) (a : List α) (b : α) (h : a.length + 1 ≤ LIM) : addD (.da (.list (a.map enc))) (.da (.list [enc b])) = some (.da (.list ((a ++ [b]).map enc))) := add_list enc a [b] h
section
variable (A : Ads) (c : Cl) (hc : OkC c) (hF : OkF c) (sc : List Int) (y : Int) (hy : 0 ≤ y) (p : P') (h : Pl c p)
include hc hF hy h
theorem way_loop (k : Int) (hk : 0 ≤ k ∧ k ≤ 999990000) :
    ∃ (ss : List Stp) (L : List P') (kk : Int) (z6 z7 z8 z9 z10 : Option SV), free z6 = true ∧ free z7 = true ∧ free z8 = true ∧ free z9 = true ∧ free z10 = true ∧ (∀ s ∈ ss, InS c s) ∧ wk c p ss = some L ∧ ss.length ≤ 6 ∧ k ≤ kk ∧ kk ≤ k + 6 ∧
      c0__law_way_right A [some (.own (dr sc y k)), some (.obj A.C (fl c)), some (.da (eP p)), some (.da (.list [eP p])), some (.da (.list [])), some (.da (.int 0)), none, none, none, none, none, none, none, none] =
        some (.nx [some (.own (dr sc y kk)), some (.obj A.C (fl c)), some (.da (eP p)), some (.da (.list ((p :: L).map eP))), some (.da (.list (ss.map eS))), some (.da (.int (ss.map (pr c)).sum)), z6, z7, z8, z9, z10, none, none, none]) := by
  obtain ⟨e, h1, ss, L, kk, z6, z7, z8, z9, z10, n6, n7, n8, n9, n10, a1, a2, a3, a4, a5, rfl⟩ := forS_inv PyData.int (fi := rg1M (consM (retM (.da (.int 6))) (retM []))) (g := setM 6)
    (body := (seqS (setS 7 (Pd.bindM (consM (varM 1) (consM (op2M ixD (varM 3) (negM (retM (.da (.int 1))))) (retM []))) (callM (F__law_moves A)))) (ifS (boolM (op2M neD (varM 7) (lstM (retM [])))) (seqS (asgS (Pd.bindM (ownM 0 (consM (varM 7) (retM []))) (callM (F__law_pick A))) (tupG 3 (consG (setM 8) (consG (setM 9) (consG (setM 10) nilG))))) (parS3 3 4 5 (consM (op2M addD (varM 3) (lstM (consM (varM 9) (retM [])))) (consM (op2M addD (varM 4) (lstM (consM (varM 8) (retM [])))) (consM (op2M addD (varM 5) (varM 10)) (retM [])))))) nxS)))
    (l := ns 6) (env := [some (.own (dr sc y k)), some (.obj A.C (fl c)), some (.da (eP p)), some (.da (.list [eP p])), some (.da (.list [])), some (.da (.int 0)), none, none, none, none, none, none, none, none])
    (fun done e => ∃ (ss : List Stp) (L : List P') (kk : Int) (z6 z7 z8 z9 z10 : Option SV), free z6 = true ∧ free z7 = true ∧ free z8 = true ∧ free z9 = true ∧ free z10 = true ∧ (∀ s ∈ ss, InS c s) ∧ wk c p ss = some L ∧ ss.length ≤ done.length ∧ k ≤ kk ∧ kk ≤ k + done.length ∧
      e = [some (.own (dr sc y kk)), some (.obj A.C (fl c)), some (.da (eP p)), some (.da (.list ((p :: L).map eP))), some (.da (.list (ss.map eS))), some (.da (.int (ss.map (pr c)).sum)), z6, z7, z8, z9, z10, none, none, none])
    (by rfl) ⟨[], [], k, none, none, none, none, none, rfl, rfl, rfl, rfl, rfl, fun s hs => by simp at hs, rfl, Nat.le_refl _, Int.le_refl _, by simp, by simp⟩ (fun done m rest env hd hp => by
      obtain ⟨ss, L, kk, z6, z7, z8, z9, z10, n6, n7, n8, n9, n10, a1, a2, a3, a4, a5, rfl⟩ := hp
      have hdl : done.length + 1 ≤ 6 := by
        have h := congrArg List.length hd
        rw [ns_len, List.length_append, List.length_cons] at h
        omega
      have e1 : (done ++ [m]).length = done.length + 1 := by simp
      obtain ⟨g1, g2⟩ := wk_pl hc _ p L h a1 a2
      have hl : Pl c (lastP p L) := lastP_pl h g1
      have hm := v_law_moves A c hc hF _ hl
      have ix : ixD (.da (.list ((p :: L).map eP))) (.da (.int (-1))) = some (.da (eP (lastP p L))) := by simp only [ixD, last_own, Option.map_some]
      have hne := (encL c).list.neD (mvs c (lastP p L)) []
      simp only [List.map_nil] at hne
      cases hmv : mvs c (lastP p L) with
      | nil =>
        rw [hmv] at hne hm
        simp only [List.map_nil] at hne hm
        generalize hR : (p :: L).map eP = R at *
        refine ⟨[some (.own (dr sc y kk)), some (.obj A.C (fl c)), some (.da (eP p)), some (.da (.list R)), some (.da (.list (ss.map eS))), some (.da (.int (ss.map (pr c)).sum)), some (.da (.int m)), z7, z8, z9, z10, none, none, none], _, by simp [Pd.runN, Pd.runF, Pd.seqS, Pd.ifS, Pd.retS, Pd.withE, Pd.andV, Pd.orV, Pd.boolM, Pd.notM, Pd.andM, Pd.orM, Pd.ifM, Pd.isiM, Pd.bindM, Pd.varM, Pd.liftO, Pd.isiD, Pd.tyOfD, Pd.asB, Pd.notV, Pd.chainM, Pd.op2M, Pd.leD, Pd.ltD, Pd.gtD, Pd.geD, Pd.intD, Pd.retM, Pd.outOf, Pd.ownAt, Pd.bltM, Pd.vals, Pd.lenD, Pd.consM, Pd.callM, Pd.ownSlots, Pd.svsOf, Pd.svOf, Pd.setOwn, Pd.nxS, Pd.setM, isOwn_zero, isOwn_succ, isOwn_nil, isOD_zero, isOD_succ, isOD_nil, ownB_free, mrg_free, Pd.wipeE, mergeE_nil, mergeE_cons, Pd.fldM, Pd.fldOf, fl_rooms, fl_sizes, fl_zones, fl_far, fl_alive, fl_apart, Pd.siM, Pd.seqOf, Pd.asgS, Pd.setS, Pd.dropS, n6], .inl (by simp [Pd.runN, Pd.runF, Pd.seqS, Pd.ifS, Pd.retS, Pd.withE, Pd.andV, Pd.orV, Pd.boolM, Pd.notM, Pd.andM, Pd.orM, Pd.ifM, Pd.isiM, Pd.bindM, Pd.varM, Pd.liftO, Pd.isiD, Pd.tyOfD, Pd.asB, Pd.notV, Pd.chainM, Pd.op2M, Pd.leD, Pd.ltD, Pd.gtD, Pd.geD, Pd.intD, Pd.retM, Pd.outOf, Pd.ownAt, Pd.bltM, Pd.vals, Pd.lenD, Pd.consM, Pd.callM, Pd.ownSlots, Pd.svsOf, Pd.svOf, Pd.setOwn, Pd.nxS, Pd.setM, isOwn_zero, isOwn_succ, isOwn_nil, isOD_zero, isOD_succ, isOD_nil, ownB_free, mrg_free, Pd.wipeE, mergeE_nil, mergeE_cons, Pd.fldM, Pd.fldOf, fl_rooms, fl_sizes, fl_zones, fl_far, fl_alive, fl_apart, Pd.siM, Pd.seqOf, Pd.asgS, Pd.setS, Pd.dropS, negM, asI, ix, hm, n7, lstM, datas, hne]; rfl), ss, L, kk, some (.da (.int m)), some (.da (.list [])), z8, z9, z10, rfl, rfl, n8, n9, n10, a1, a2, by omega, a4, by omega, by rw [hR]⟩
      | cons r0 M0 =>
        have hnn : mvs c (lastP p L) ≠ [] := by rw [hmv]; simp
        obtain ⟨⟨s, q⟩, hr, hpk⟩ := v_pick (eL c) A sc y kk hy (by omega) _ hnn
        have hd0 : decide (mvs c (lastP p L) = []) = false := decide_eq_false hnn
        rw [hd0] at hne
        have hsq := (mvs_iff hc hl).mp hr
        have hsn := wk_snoc c s ss p L a2
        rw [hsq.2] at hsn
        have s1 := add_one eP (p :: L) q (by simp; unfold LIM; omega)
        have s2 := add_one eS ss s (by unfold LIM; omega)
        have e2 : ((ss ++ [s]).map (pr c)).sum = (ss.map (pr c)).sum + pr c s := by simp
        have e3 : (p :: L) ++ [q] = p :: (L ++ [q]) := rfl
        rw [e3] at s1
        generalize hMM : (mvs c (lastP p L)).map (eL c) = MM at *
        generalize hR : (p :: L).map eP = R at *
        generalize hR2 : (p :: (L ++ [q])).map eP = R2 at *
        generalize hW2 : (ss ++ [s]).map eS = W2 at *
        generalize hW : ss.map eS = W at *
        unfold eL at hpk
        refine ⟨[some (.own (dr sc y kk)), some (.obj A.C (fl c)), some (.da (eP p)), some (.da (.list R)), some (.da (.list W)), some (.da (.int (ss.map (pr c)).sum)), some (.da (.int m)), z7, z8, z9, z10, none, none, none], [some (.own (dr sc y (kk + 1))), some (.obj A.C (fl c)), some (.da (eP p)), some (.da (.list R2)), some (.da (.list W2)), some (.da (.int ((ss.map (pr c)).sum + pr c s))), some (.da (.int m)), some (.da (.list MM)), some (.da (eS s)), some (.da (eP q)), some (.da (.int (pr c s))), none, none, none], by simp [Pd.runN, Pd.runF, Pd.seqS, Pd.ifS, Pd.retS, Pd.withE, Pd.andV, Pd.orV, Pd.boolM, Pd.notM, Pd.andM, Pd.orM, Pd.ifM, Pd.isiM, Pd.bindM, Pd.varM, Pd.liftO, Pd.isiD, Pd.tyOfD, Pd.asB, Pd.notV, Pd.chainM, Pd.op2M, Pd.leD, Pd.ltD, Pd.gtD, Pd.geD, Pd.intD, Pd.retM, Pd.outOf, Pd.ownAt, Pd.bltM, Pd.vals, Pd.lenD, Pd.consM, Pd.callM, Pd.ownSlots, Pd.svsOf, Pd.svOf, Pd.setOwn, Pd.nxS, Pd.setM, isOwn_zero, isOwn_succ, isOwn_nil, isOD_zero, isOD_succ, isOD_nil, ownB_free, mrg_free, Pd.wipeE, mergeE_nil, mergeE_cons, Pd.fldM, Pd.fldOf, fl_rooms, fl_sizes, fl_zones, fl_far, fl_alive, fl_apart, Pd.siM, Pd.seqOf, Pd.asgS, Pd.setS, Pd.dropS, n6],
          .inl (by simp [Pd.runN, Pd.runF, Pd.seqS, Pd.ifS, Pd.retS, Pd.withE, Pd.andV, Pd.orV, Pd.boolM, Pd.notM, Pd.andM, Pd.orM, Pd.ifM, Pd.isiM, Pd.bindM, Pd.varM, Pd.liftO, Pd.isiD, Pd.tyOfD, Pd.asB, Pd.notV, Pd.chainM, Pd.op2M, Pd.leD, Pd.ltD, Pd.gtD, Pd.geD, Pd.intD, Pd.retM, Pd.outOf, Pd.ownAt, Pd.bltM, Pd.vals, Pd.lenD, Pd.consM, Pd.callM, Pd.ownSlots, Pd.svsOf, Pd.svOf, Pd.setOwn, Pd.nxS, Pd.setM, isOwn_zero, isOwn_succ, isOwn_nil, isOD_zero, isOD_succ, isOD_nil, ownB_free, mrg_free, Pd.wipeE, mergeE_nil, mergeE_cons, Pd.fldM, Pd.fldOf, fl_rooms, fl_sizes, fl_zones, fl_far, fl_alive, fl_apart, Pd.siM, Pd.seqOf, Pd.asgS, Pd.setS, Pd.dropS, negM, asI, ix, hm, n7, lstM, datas, hne, ownM, chkM, hpk, tupG, consG, nilG, n8, n9, n10, parS3, s1, s2, add_int]), ss ++ [s], L ++ [q], kk + 1, some (.da (.int m)), some (.da (.list MM)), some (.da (eS s)), some (.da (eP q)), some (.da (.int (pr c s))), rfl, rfl, rfl, rfl, rfl, ?_, hsn, by simp; omega, by omega, by omega, by rw [hR2, hW2, e2]⟩
        intro x hx
        rcases List.mem_append.mp hx with hx | hx
        · exact a1 x hx
        · rw [List.mem_singleton] at hx; rw [hx]; exact hsq.1)
  rw [ns_len] at a3 a5
  exact ⟨ss, L, kk, z6, z7, z8, z9, z10, n6, n7, n8, n9, n10, a1, a2, a3, a4, a5, h1⟩
theorem v_way_right (hCS : A.CS ≠ A.CB) (k : Int) (hk : 0 ≤ k ∧ k ≤ 999980000) : ∃ k', k ≤ k' ∧ k' ≤ k + 20 ∧ F__law_way_right A [.own (dr sc y k), .obj A.C (fl c), .da (eP p)] = some (.ret (.da (.bool true)) (dr sc y k')) := by
  obtain ⟨ss, L, kk, z6, z7, z8, z9, z10, n6, n7, n8, n9, n10, a1, a2, a3, a4, a5, hloop⟩ := way_loop A c hc hF sc y hy p h k (by omega)
  obtain ⟨g1, g2⟩ := wk_pl hc _ p L h a1 a2
  have vw := v_walk A c hc p h ss (.tuple (ss.map eS)) (.inr rfl) a1 L a2 (by omega)
  have vc := v_cost A c hc p h hF ss (.list (ss.map eS)) (.inl rfl) a1 L a2 (by omega)
  have nr := neD_self (encP.list.pl (p :: L))
  have nt := neD_int' (ss.map (pr c)).sum (ss.map (pr c)).sum
  obtain ⟨v, v1, v2, v3⟩ := v_next A sc y kk (ss.length + 1) hy (by omega) (by omega)
  have ev0 : v = (v.toNat : Int) := by omega
  have hn : v.toNat ≤ ss.length := by omega
  generalize v.toNat = n at ev0 hn
  subst ev0
  obtain ⟨s, k2, hs, b1, b2, b3⟩ := v_law_any A c hc sc y (kk + 1) hy (by omega)
  have hnl : n < (p :: L).length := by rw [List.length_cons, g2]; omega
  have ix : ixD (.da (.list ((p :: L).map eP))) (.da (.int n)) = some (.da (eP (p :: L)[n])) := ix_list eP (List.getElem?_eq_getElem hnl)
  have hr : Pl c (p :: L)[n] := by
    rcases List.mem_cons.mp (List.getElem_mem hnl) with e | e
    · rw [e]; exact h
    · exact g1 _ e
  have hlast := lastP_get p L n hnl
  obtain ⟨L1, w1, w2, w3⟩ := wk_pre c (ss.take n) (ss.drop n) p L (by rw [List.take_append_drop]; exact a2)
  have htl : (ss.take n).length = n := by rw [List.length_take]; omega
  rw [htl] at w3
  subst w3
  generalize hrr : (p :: L)[n] = r at *
  have hm := v_law_moves A c hc hF r hr
  have hml := mvs_len hc hr
  have hin := encS.inL false s ((mvs c r).map (·.1))
  have lW : (ss.map eS).length = ss.length := List.length_map ..
  have tW : tupleD [.da (.list (ss.map eS))] = some (.da (.tuple (ss.map eS))) := rfl
  have wc : ∀ own R W : SV, R = .da (.list ((p :: L).map eP)) → W = .da (.list (ss.map eS)) → ∀ t : Int, c1__law_way_right A [some (.own (dr sc y k2)), some (.obj A.C (fl c)), some (.da (eP p)), some R, some W, some (.da (.int t)), z6, z7, some (.da (eS s)), z9, z10, some (.da (.int n)), none, none] =
      some (.ok (.da (.list (((mvs c r).map (·.1)).map eS))) [some (.own (dr sc y k2)), some (.obj A.C (fl c)), some (.da (eP p)), some R, some W, some (.da (.int t)), z6, z7, some (.da (eS s)), z9, z10, some (.da (.int n)), none, none]) := fun own R W hR hW t => by
    subst hR; subst hW
    generalize hR : (p :: L).map eP = R at *
    unfold c1__law_way_right
    rw [lcM_tl (eL c) (l := mvs c r) (fun q => some (eS q.1)) (by simp [Pd.runN, Pd.runF, Pd.seqS, Pd.ifS, Pd.retS, Pd.withE, Pd.andV, Pd.orV, Pd.boolM, Pd.notM, Pd.andM, Pd.orM, Pd.ifM, Pd.isiM, Pd.bindM, Pd.varM, Pd.liftO, Pd.isiD, Pd.tyOfD, Pd.asB, Pd.notV, Pd.chainM, Pd.op2M, Pd.leD, Pd.ltD, Pd.gtD, Pd.geD, Pd.intD, Pd.retM, Pd.outOf, Pd.ownAt, Pd.bltM, Pd.vals, Pd.lenD, Pd.consM, Pd.callM, Pd.ownSlots, Pd.svsOf, Pd.svOf, Pd.setOwn, Pd.nxS, Pd.setM, isOwn_zero, isOwn_succ, isOwn_nil, isOD_zero, isOD_succ, isOD_nil, ownB_free, mrg_free, Pd.wipeE, mergeE_nil, mergeE_cons, Pd.fldM, Pd.fldOf, fl_rooms, fl_sizes, fl_zones, fl_far, fl_alive, fl_apart, Pd.siM, Pd.seqOf, Pd.asgS, Pd.setS, Pd.dropS, ix, hm]) (by unfold LIM; omega) (fun q hq => ?_), filterMap_some, List.map_map]
    · rfl
    · unfold stepV eL
      simp [Pd.runN, Pd.runF, Pd.seqS, Pd.ifS, Pd.retS, Pd.withE, Pd.andV, Pd.orV, Pd.boolM, Pd.notM, Pd.andM, Pd.orM, Pd.ifM, Pd.isiM, Pd.bindM, Pd.varM, Pd.liftO, Pd.isiD, Pd.tyOfD, Pd.asB, Pd.notV, Pd.chainM, Pd.op2M, Pd.leD, Pd.ltD, Pd.gtD, Pd.geD, Pd.intD, Pd.retM, Pd.outOf, Pd.ownAt, Pd.bltM, Pd.vals, Pd.lenD, Pd.consM, Pd.callM, Pd.ownSlots, Pd.svsOf, Pd.svOf, Pd.setOwn, Pd.nxS, Pd.setM, isOwn_zero, isOwn_succ, isOwn_nil, isOD_zero, isOD_succ, isOD_nil, ownB_free, mrg_free, Pd.wipeE, mergeE_nil, mergeE_cons, Pd.fldM, Pd.fldOf, fl_rooms, fl_sizes, fl_zones, fl_far, fl_alive, fl_apart, Pd.siM, Pd.seqOf, Pd.asgS, Pd.setS, Pd.dropS, tupG, consG, nilG, n6, n7, n9, n10]
  have wc := wc (.da .none) _ _ rfl rfl
  by_cases hmem : s ∈ (mvs c r).map (·.1)
  · refine ⟨k2, by omega, by omega, ?_⟩
    generalize hR : (p :: L).map eP = R at *
    generalize hW : ss.map eS = W at *
    generalize hMM : ((mvs c r).map (·.1)).map eS = MM at *
    unfold F__law_way_right g__law_way_right
    simp [Pd.runN, Pd.runF, Pd.seqS, Pd.ifS, Pd.retS, Pd.withE, Pd.andV, Pd.orV, Pd.boolM, Pd.notM, Pd.andM, Pd.orM, Pd.ifM, Pd.isiM, Pd.bindM, Pd.varM, Pd.liftO, Pd.isiD, Pd.tyOfD, Pd.asB, Pd.notV, Pd.chainM, Pd.op2M, Pd.leD, Pd.ltD, Pd.gtD, Pd.geD, Pd.intD, Pd.retM, Pd.outOf, Pd.ownAt, Pd.bltM, Pd.vals, Pd.lenD, Pd.consM, Pd.callM, Pd.ownSlots, Pd.svsOf, Pd.svOf, Pd.setOwn, Pd.nxS, Pd.setM, isOwn_zero, isOwn_succ, isOwn_nil, isOD_zero, isOD_succ, isOD_nil, ownB_free, mrg_free, Pd.wipeE, mergeE_nil, mergeE_cons, Pd.fldM, Pd.fldOf, fl_rooms, fl_sizes, fl_zones, fl_far, fl_alive, fl_apart, Pd.siM, Pd.seqOf, Pd.asgS, Pd.setS, Pd.dropS, parS3, lstM, datas, hloop, tW, vw, nr, vc, nt, lW, add_int, ownM, chkM, v3, b3, n8, wc, hin, hmem]
  · have hbad : pa c r s = none := by
      cases hp : pa c r s with
      | none => rfl
      | some q => exact absurd (List.mem_map.mpr ⟨(s, q), (mvs_iff hc hr).mpr ⟨hs, hp⟩, rfl⟩) hmem
    have hpre : ∀ x ∈ ss.take n, InS c x := fun x hx => a1 x (List.mem_of_mem_take hx)
    have bw := v_walk_bad A c hc p h (ss.take n) s (ss.drop n) (.list ((ss.take n ++ s :: ss.drop n).map eS)) (.inl rfl) hpre hs _ w1 (by rw [hlast]; exact hbad) (by omega)
    have bc := v_cost_bad A c hc p h (ss.take n) s (ss.drop n) (.list ((ss.take n ++ s :: ss.drop n).map eS)) (.inl rfl) hpre hs _ w1 (by rw [hlast]; exact hbad) (by omega)
    rw [htl] at bw bc
    have t1 := slice_takeL eS ss n
    have t2 := slice_dropL eS ss n
    have t3 := add_one eS (ss.take n) s (by rw [htl]; unfold LIM; omega)
    have t4 := add_list eS (ss.take n ++ [s]) (ss.drop n) (by rw [List.length_append, List.length_drop, htl]; simp [LIM]; omega)
    rw [List.append_assoc] at t4
    simp only [List.singleton_append] at t4
    have m1 := neD_self (pl_badI n)
    have m2 := eqD_self (pl_badI n)
    have lk : List.lookup ("index" : Str) [(("index" : Str), PyData.int (n : Int))] = some (.int n) := by simp [List.lookup]
    refine ⟨k2, by omega, by omega, ?_⟩
    generalize hR : (p :: L).map eP = R at *
    generalize hMM : ((mvs c r).map (·.1)).map eS = MM at *
    generalize hB : (ss.take n ++ s :: ss.drop n).map eS = B at *
    generalize hT1 : (ss.take n).map eS = T1 at *
    generalize hT2 : (ss.drop n).map eS = T2 at *
    generalize hT3 : (ss.take n ++ [s]).map eS = T3 at *
    generalize hW : ss.map eS = W at *
    clear w1 w2 hpre hlast a1 a2
    unfold F__law_way_right g__law_way_right
    simp [Pd.runN, Pd.runF, Pd.seqS, Pd.ifS, Pd.retS, Pd.withE, Pd.andV, Pd.orV, Pd.boolM, Pd.notM, Pd.andM, Pd.orM, Pd.ifM, Pd.isiM, Pd.bindM, Pd.varM, Pd.liftO, Pd.isiD, Pd.tyOfD, Pd.asB, Pd.notV, Pd.chainM, Pd.op2M, Pd.leD, Pd.ltD, Pd.gtD, Pd.geD, Pd.intD, Pd.retM, Pd.outOf, Pd.ownAt, Pd.bltM, Pd.vals, Pd.lenD, Pd.consM, Pd.callM, Pd.ownSlots, Pd.svsOf, Pd.svOf, Pd.setOwn, Pd.nxS, Pd.setM, isOwn_zero, isOwn_succ, isOwn_nil, isOD_zero, isOD_succ, isOD_nil, ownB_free, mrg_free, Pd.wipeE, mergeE_nil, mergeE_cons, Pd.fldM, Pd.fldOf, fl_rooms, fl_sizes, fl_zones, fl_far, fl_alive, fl_apart, Pd.siM, Pd.seqOf, Pd.asgS, Pd.setS, Pd.dropS, parS3, lstM, datas, hloop, tW, vw, nr, vc, nt, lW, add_int, ownM, chkM, v3, b3, n8, wc, hin, hmem, sliceM, partM, asI, t1, t2, t3, t4, toldB, blind, bw, bc, hCS, lk, tupM, m1, m2]
end
end K01
end
section
set_option Elab.async false
set_option linter.all false
set_option maxRecDepth 100000
set_option maxHeartbeats 1000000
namespace K01
open PySem Pd
/-! ### all placings are the placings -/
theorem fits_pre1 {c : Cl} (hc : OkC c) {p : P'} {ms : List Int} (h : p.length < c.sizes.length) (hf : fits c (p ++ [ms]) = true) : fits c p = true := by
  rw [fits_iff] at hf ⊢
  intro i hi
  have h1 := hf i hi
  rw [hl_snoc ms h] at h1
  have h2 := hc.sp _ (List.getElem_mem h)
  split at h1 <;> omega
theorem fits_pre {c : Cl} (hc : OkC c) : ∀ (b a : P'), (a ++ b).length ≤ c.sizes.length → fits c (a ++ b) = true → fits c a = true
  | [], a, _, h => by rwa [List.append_nil] at h
  | ms :: b, a, hl, h => by
    have e : a ++ ms :: b = (a ++ [ms]) ++ b := by simp
    rw [e] at h hl
    have h1 := fits_pre hc b (a ++ [ms]) hl h
    refine fits_pre1 hc ?_ h1
    simp at hl; omega
theorem dfs_to {c : Cl} : ∀ (r : Nat) (q p : P'), p ∈ dfs c r q → p.length = q.length + r ∧ (∀ ms ∈ p, ms ∈ q ∨ ms ∈ ch c) ∧ (0 < r ∨ fits c q = true → fits c p = true)
  | 0, q, p, h => by
    have h : p ∈ [q] := h
    rw [List.mem_singleton] at h
    subst h
    exact ⟨rfl, fun ms h => .inl h, fun h => h.elim (fun z => absurd z (Nat.lt_irrefl _)) id⟩
  | r + 1, q, p, h => by
    have h : p ∈ (ch c).flatMap fun ms => if fits c (q ++ [ms]) = true then dfs c r (q ++ [ms]) else [] := h
    obtain ⟨ms, h1, h2⟩ := List.mem_flatMap.mp h
    split at h2
    · rename_i hf
      obtain ⟨i1, i2, i3⟩ := dfs_to r _ p h2
      refine ⟨by rw [i1, List.length_append, List.length_singleton]; omega, fun x hx => ?_, fun _ => i3 (.inr hf)⟩
      rcases i2 x hx with z | z
      · rcases List.mem_append.mp z with z | z
        · exact .inl z
        · rw [List.mem_singleton] at z; rw [z]; exact .inr h1
      · exact .inr z
    · simp at h2
theorem dfs_of {c : Cl} (hc : OkC c) : ∀ (s q : P'), (∀ ms ∈ s, ms ∈ ch c) → (q ++ s).length ≤ c.sizes.length → fits c (q ++ s) = true → q ++ s ∈ dfs c s.length q
  | [], q, _, _, _ => by simp [dfs]
  | ms :: s, q, h1, h2, h3 => by
    have e : q ++ ms :: s = (q ++ [ms]) ++ s := by simp
    rw [e] at h2 h3 ⊢
    have hf := fits_pre hc s (q ++ [ms]) h2 h3
    show _ ∈ (ch c).flatMap fun ms => if fits c (q ++ [ms]) = true then dfs c s.length (q ++ [ms]) else []
    refine List.mem_flatMap.mpr ⟨ms, h1 ms (.head _), ?_⟩
    rw [if_pos hf]
    exact dfs_of hc s (q ++ [ms]) (fun x hx => h1 x (.tail _ hx)) h2 h3
theorem allP_iff {c : Cl} (hc : OkC c) {p : P'} : p ∈ allP c ↔ Pl c p := by
  constructor
  · intro h
    obtain ⟨h1, h2, h3⟩ := dfs_to _ _ _ h
    exact ⟨by simpa using h1, fun ms hm => (h2 ms hm).elim (fun z => by simp at z) id, h3 (.inl (by have := hc.sl; omega))⟩
  · intro h
    have := dfs_of hc p [] h.mem (by simpa using Nat.le_of_eq h.len) (by simpa using h.fit)
    rw [h.len] at this
    show p ∈ dfs c c.sizes.length []
    simpa using this
theorem isP_mem {c : Cl} (hc : OkC c) {p : P'} (h : Wild c p) : K01.isP c p = decide (p ∈ allP c) := by
  by_cases hm : p ∈ allP c
  · rw [decide_eq_true hm]
    exact ((allP_iff hc).mp hm).isP
  · rw [decide_eq_false hm]
    cases hp : K01.isP c p with
    | false => rfl
    | true =>
      unfold K01.isP at hp
      simp only [Bool.and_eq_true, List.all_eq_true] at hp
      exact absurd ((allP_iff hc).mpr ⟨h.len, fun ms hms => (asc_ch hc (h.asc ms hms)).mpr (hp.1 ms hms), hp.2⟩) hm
theorem forS_inv2 {α : Type} (enc : α → PyData) {fi : Mo (List PyData)} {g : SV → Mo Unit} {body : MoS} {l : List α} {env env1 : PEnv} (P : List α → PEnv → Prop) (hf : fi env = some (.ok (l.map enc) env1)) (h0 : P [] env1) (hs : ∀ done x rest env, done ++ x :: rest = l → P done env → ∃ e1 e2, g (.da (enc x)) env = some (.ok () e1) ∧ (body e1 = some (.nx e2) ∨ body e1 = some (.ct e2)) ∧ P (done ++ [x]) e2) :
    ∃ e, forS fi g body env = some (.nx e) ∧ P l e := by
  unfold forS withE
  rw [hf]
  exact forGo_inv enc P hs l [] env1 rfl h0
section
variable (A : Ads) (c : Cl) (hc : OkC c) (hF : OkF c) (sc : List Int) (y : Int) (hy : 0 ≤ y)
include hc hF hy
theorem wilds (E : SV) (hE : E = .da (.list ((allP c).map eP))) (k : Int) (hk : 0 ≤ k ∧ k ≤ 999970000) :
    ∃ (kk : Int) (z3 z4 z5 : Option SV), free z3 = true ∧ free z4 = true ∧ free z5 = true ∧ k ≤ kk ∧ kk ≤ k + 100 ∧ c1__law_cluster_right A [some (.own (dr sc y k)), some (.obj A.C (fl c)), some E, none, none, none, none, none, none, none, none] =
      some (.nx [some (.own (dr sc y kk)), some (.obj A.C (fl c)), some E, z3, z4, z5, none, none, none, none, none]) := by
  have hrl := hc.rl
  have hsl := hc.sl
  have hcl := ch_len hc
  obtain ⟨e, h1, kk, z3, z4, z5, n3, n4, n5, a1, a2, rfl⟩ := forS_inv PyData.int (fi := rg1M (consM (retM (.da (.int 4))) (retM []))) (g := setM 3)
    (body := (seqS (setS 4 (op2M addD (Pd.bindM (consM (varM 1) (retM [])) (callM (F__law_choices A))) (lstM (consM (tupM (retM [])) (consM (tupM (consM (retM (.da (.int 0))) (retM []))) (consM (tupM (consM (retM (.da (.int 0))) (consM (retM (.da (.int 1))) (retM [])))) (retM []))))))) (seqS (setS 5 (bltM tupleD (consM (c0__law_cluster_right A) (retM [])))) (ifS (boolM (op2M neD (Pd.bindM (consM (varM 1) (consM (varM 5) (retM []))) (callM (F_is_placing A))) (op2M (inD false) (varM 5) (varM 2)))) (retS (retM (.da (.bool false)))) nxS))))
    (l := ns 4) (env := [some (.own (dr sc y k)), some (.obj A.C (fl c)), some E, none, none, none, none, none, none, none, none])
    (fun done e => ∃ (kk : Int) (z3 z4 z5 : Option SV), free z3 = true ∧ free z4 = true ∧ free z5 = true ∧ k ≤ kk ∧ kk ≤ k + 3 * done.length ∧ e = [some (.own (dr sc y kk)), some (.obj A.C (fl c)), some E, z3, z4, z5, none, none, none, none, none])
    (by rfl) ⟨k, none, none, none, rfl, rfl, rfl, Int.le_refl _, by simp, rfl⟩ (fun done m rest env hd hp => by
      obtain ⟨kk, z3, z4, z5, n3, n4, n5, a1, a2, rfl⟩ := hp
      have hdl : done.length + 1 ≤ 4 := by
        have h := congrArg List.length hd
        rw [ns_len, List.length_append, List.length_cons] at h
        omega
      have e1 : (done ++ [m]).length = done.length + 1 := by simp
      have hvc := v_law_choices A c hc
      have ab : addD (.da (.list ((ch c).map tupI))) (.da (.list [.tuple [], .tuple [.int 0], .tuple [.int 0, .int 1]])) = some (.da (.list ((ch c ++ [[], [0], [0, 1]]).map tupI))) := add_list tupI (ch c) [[], [0], [0, 1]] (by simp; unfold LIM; omega)
      have hasc : ∀ x ∈ ch c ++ [[], [0], [0, 1]], Asc c.rooms.length 0 x ∧ x.length ≤ 60 := fun x hx => by
        rcases List.mem_append.mp hx with hx | hx
        · exact ch_asc hc hx
        · simp only [List.mem_cons, List.not_mem_nil, or_false] at hx
          rcases hx with rfl | rfl | rfl
          · exact ⟨trivial, by decide⟩
          · exact ⟨⟨Int.le_refl _, by omega, trivial⟩, by decide⟩
          · exact ⟨⟨Int.le_refl _, by omega, by omega, by omega, trivial⟩, by decide⟩
      have hnil : ch c ++ [[], [0], [0, 1]] ≠ [] := by simp
      generalize ch c ++ [[], [0], [0, 1]] = Wl at *
      obtain ⟨w, w1, w2, w3⟩ := lcM_st PyData.int tupI (fun x => x ∈ Wl) (vs := [6]) (fi := siM (fldM A.C "_sizes" (varM 1))) (g := setM 6) (tt := retM true) (te := Pd.bindM (ownM 0 (consM (varM 4) (retM []))) (callM (F__law_pick A)))
        (env := [some (.own (dr sc y kk)), some (.obj A.C (fl c)), some E, some (.da (.int m)), some (.da (.list (Wl.map tupI))), z5, none, none, none, none, none]) (l := c.sizes) (fun n => [some (.own (dr sc y (kk + n))), some (.obj A.C (fl c)), some E, some (.da (.int m)), some (.da (.list (Wl.map tupI))), z5, none, none, none, none, none])
        (by subst hE; simp [Pd.runN, Pd.runF, Pd.seqS, Pd.ifS, Pd.retS, Pd.withE, Pd.andV, Pd.orV, Pd.boolM, Pd.notM, Pd.andM, Pd.orM, Pd.ifM, Pd.isiM, Pd.bindM, Pd.varM, Pd.liftO, Pd.isiD, Pd.tyOfD, Pd.asB, Pd.notV, Pd.chainM, Pd.op2M, Pd.leD, Pd.ltD, Pd.gtD, Pd.geD, Pd.intD, Pd.retM, Pd.outOf, Pd.ownAt, Pd.bltM, Pd.vals, Pd.lenD, Pd.consM, Pd.callM, Pd.ownSlots, Pd.svsOf, Pd.svOf, Pd.setOwn, Pd.nxS, Pd.setM, isOwn_zero, isOwn_succ, isOwn_nil, isOD_zero, isOD_succ, isOD_nil, ownB_free, mrg_free, Pd.wipeE, mergeE_nil, mergeE_cons, Pd.fldM, Pd.fldOf, fl_rooms, fl_sizes, fl_zones, fl_far, fl_alive, fl_apart, Pd.siM, Pd.seqOf, Pd.asgS, Pd.setS, Pd.dropS]) (by unfold LIM; omega) (fun n x hn _ => by
          obtain ⟨a, ha, hp⟩ := v_pick tupI A sc y (kk + n) hy (by omega) Wl hnil
          have e : kk + (n : Int) + 1 = kk + ((n + 1 : Nat) : Int) := by omega
          rw [e] at hp
          refine ⟨a, ha, ?_⟩
          generalize Wl.map tupI = WW at *
          subst hE
          unfold stepV
          simp [Pd.runN, Pd.runF, Pd.seqS, Pd.ifS, Pd.retS, Pd.withE, Pd.andV, Pd.orV, Pd.boolM, Pd.notM, Pd.andM, Pd.orM, Pd.ifM, Pd.isiM, Pd.bindM, Pd.varM, Pd.liftO, Pd.isiD, Pd.tyOfD, Pd.asB, Pd.notV, Pd.chainM, Pd.op2M, Pd.leD, Pd.ltD, Pd.gtD, Pd.geD, Pd.intD, Pd.retM, Pd.outOf, Pd.ownAt, Pd.bltM, Pd.vals, Pd.lenD, Pd.consM, Pd.callM, Pd.ownSlots, Pd.svsOf, Pd.svOf, Pd.setOwn, Pd.nxS, Pd.setM, isOwn_zero, isOwn_succ, isOwn_nil, isOD_zero, isOD_succ, isOD_nil, ownB_free, mrg_free, Pd.wipeE, mergeE_nil, mergeE_cons, Pd.fldM, Pd.fldOf, fl_rooms, fl_sizes, fl_zones, fl_far, fl_alive, fl_apart, Pd.siM, Pd.seqOf, Pd.asgS, Pd.setS, Pd.dropS, ownM, chkM, hp, n5])
      have hw : Wild c w := ⟨w1, fun ms hms => (hasc ms (w2 ms hms)).1, fun ms hms => (hasc ms (w2 ms hms)).2⟩
      have hip := v_is_placing A c w hc hw
      have hbb := isP_mem hc hw
      have hin : inD false (.da (eP w)) (.da (.list ((allP c).map eP))) = some (.da (.bool (K01.isP c w))) := by
        rw [encP.inL false w (allP c), hbb]
        simp
      have hnb := neD_bool (K01.isP c w) (K01.isP c w)
      rw [bne_self_eq_false] at hnb
      have htd : tupleD [.da (.list (w.map tupI))] = some (.da (eP w)) := rfl
      have hset : setM 3 (.da (.int m)) [some (.own (dr sc y kk)), some (.obj A.C (fl c)), some E, z3, z4, z5, none, none, none, none, none] = some (.ok () [some (.own (dr sc y kk)), some (.obj A.C (fl c)), some E, some (.da (.int m)), z4, z5, none, none, none, none, none]) := by subst hE; simp [Pd.runN, Pd.runF, Pd.seqS, Pd.ifS, Pd.retS, Pd.withE, Pd.andV, Pd.orV, Pd.boolM, Pd.notM, Pd.andM, Pd.orM, Pd.ifM, Pd.isiM, Pd.bindM, Pd.varM, Pd.liftO, Pd.isiD, Pd.tyOfD, Pd.asB, Pd.notV, Pd.chainM, Pd.op2M, Pd.leD, Pd.ltD, Pd.gtD, Pd.geD, Pd.intD, Pd.retM, Pd.outOf, Pd.ownAt, Pd.bltM, Pd.vals, Pd.lenD, Pd.consM, Pd.callM, Pd.ownSlots, Pd.svsOf, Pd.svOf, Pd.setOwn, Pd.nxS, Pd.setM, isOwn_zero, isOwn_succ, isOwn_nil, isOD_zero, isOD_succ, isOD_nil, ownB_free, mrg_free, Pd.wipeE, mergeE_nil, mergeE_cons, Pd.fldM, Pd.fldOf, fl_rooms, fl_sizes, fl_zones, fl_far, fl_alive, fl_apart, Pd.siM, Pd.seqOf, Pd.asgS, Pd.setS, Pd.dropS, n3]
      have w3 : c0__law_cluster_right A [some (.own (dr sc y kk)), some (.obj A.C (fl c)), some E, some (.da (.int m)), some (.da (.list (Wl.map tupI))), z5, none, none, none, none, none] = _ := w3
      subst hE
      generalize (allP c).map eP = EE at *
      generalize hCC : (ch c).map tupI = CC at *
      generalize hWW : Wl.map tupI = WW at *
      generalize hww : w.map tupI = ww at *
      refine ⟨_, [some (.own (dr sc y (kk + c.sizes.length))), some (.obj A.C (fl c)), some (.da (.list EE)), some (.da (.int m)), some (.da (.list WW)), some (.da (eP w)), none, none, none, none, none], hset, .inl ?_, kk + c.sizes.length, some (.da (.int m)), some (.da (.list WW)), some (.da (eP w)), rfl, rfl, rfl, by omega, by omega, rfl⟩
      simp [Pd.runN, Pd.runF, Pd.seqS, Pd.ifS, Pd.retS, Pd.withE, Pd.andV, Pd.orV, Pd.boolM, Pd.notM, Pd.andM, Pd.orM, Pd.ifM, Pd.isiM, Pd.bindM, Pd.varM, Pd.liftO, Pd.isiD, Pd.tyOfD, Pd.asB, Pd.notV, Pd.chainM, Pd.op2M, Pd.leD, Pd.ltD, Pd.gtD, Pd.geD, Pd.intD, Pd.retM, Pd.outOf, Pd.ownAt, Pd.bltM, Pd.vals, Pd.lenD, Pd.consM, Pd.callM, Pd.ownSlots, Pd.svsOf, Pd.svOf, Pd.setOwn, Pd.nxS, Pd.setM, isOwn_zero, isOwn_succ, isOwn_nil, isOD_zero, isOD_succ, isOD_nil, ownB_free, mrg_free, Pd.wipeE, mergeE_nil, mergeE_cons, Pd.fldM, Pd.fldOf, fl_rooms, fl_sizes, fl_zones, fl_far, fl_alive, fl_apart, Pd.siM, Pd.seqOf, Pd.asgS, Pd.setS, Pd.dropS, hvc, hCC, lstM, tupM, datas, ab, n4, n5, w3, htd, hip, hin, hnb])
  rw [ns_len] at a2
  exact ⟨kk, z3, z4, z5, n3, n4, n5, a1, by omega, h1⟩
end
end K01
end
section
set_option Elab.async false
set_option linter.all false
set_option maxRecDepth 100000
set_option maxHeartbeats 1000000
namespace K01
open PySem Pd
section
variable (A : Ads) (c : Cl) (hc : OkC c) (hF : OkF c) (sc : List Int) (y : Int) (hy : 0 ≤ y)
include hc hF hy
theorem each_step (E : SV) (hE : E = .da (.list ((allP c).map eP))) (p : P') (h : Pl c p) (k : Int) (hk : 0 ≤ k ∧ k ≤ 999970000) (z3 z5 w8 : Option SV) (n3 : free z3 = true) (n5 : free z5 = true) (m8 : free w8 = true) :
    ∃ (kk : Int) (z8 : Option SV), free z8 = true ∧ k ≤ kk ∧ kk ≤ k + 4 ∧ c3__law_cluster_right A [some (.own (dr sc y k)), some (.obj A.C (fl c)), some E, z3, some (.da (.list (((mvs c p).map (·.1)).map eS))), z5, none, some (.da (eP p)), w8, none, none] =
      some (.nx [some (.own (dr sc y kk)), some (.obj A.C (fl c)), some E, z3, some (.da (.list (((mvs c p).map (·.1)).map eS))), z5, none, some (.da (eP p)), z8, none, none]) := by
  obtain ⟨s, kk, hs, b1, b2, b3⟩ := v_law_any A c hc sc y k hy (by omega)
  have hml := mvs_len hc h
  have ad := add_one eS ((mvs c p).map (·.1)) s (by rw [List.length_map]; unfold LIM; omega)
  have hin : ∀ x ∈ (mvs c p).map (·.1) ++ [s], InS c x := fun x hx => by
    rcases List.mem_append.mp hx with hx | hx
    · obtain ⟨⟨s', q⟩, hm, rfl⟩ := List.mem_map.mp hx
      exact ((mvs_iff hc h).mp hm).1
    · rw [List.mem_singleton] at hx; rw [hx]; exact hs
  generalize (mvs c p).map (·.1) ++ [s] = S at *
  generalize hM : ((mvs c p).map (·.1)).map eS = M at *
  obtain ⟨e, h1, z8, n8, rfl⟩ := forS_inv2 eS (fi := siM (op2M addD (varM 4) (lstM (consM (Pd.bindM (ownM 0 (consM (varM 1) (retM []))) (callM (F__law_any A))) (retM []))))) (g := setM 8) (body := ifS (notM (boolM (Pd.bindM (consM (varM 1) (consM (varM 7) (consM (varM 8) (retM [])))) (callM (F__law_step_right A))))) (retS (retM (.da (.bool false)))) nxS)
    (l := S) (env := [some (.own (dr sc y k)), some (.obj A.C (fl c)), some E, z3, some (.da (.list M)), z5, none, some (.da (eP p)), w8, none, none]) (env1 := [some (.own (dr sc y kk)), some (.obj A.C (fl c)), some E, z3, some (.da (.list M)), z5, none, some (.da (eP p)), w8, none, none])
    (fun done e => ∃ z8, free z8 = true ∧ e = [some (.own (dr sc y kk)), some (.obj A.C (fl c)), some E, z3, some (.da (.list M)), z5, none, some (.da (eP p)), z8, none, none])
    (by
      generalize S.map eS = SS at *
      subst hE
      simp [Pd.runN, Pd.runF, Pd.seqS, Pd.ifS, Pd.retS, Pd.withE, Pd.andV, Pd.orV, Pd.boolM, Pd.notM, Pd.andM, Pd.orM, Pd.ifM, Pd.isiM, Pd.bindM, Pd.varM, Pd.liftO, Pd.isiD, Pd.tyOfD, Pd.asB, Pd.notV, Pd.chainM, Pd.op2M, Pd.leD, Pd.ltD, Pd.gtD, Pd.geD, Pd.intD, Pd.retM, Pd.outOf, Pd.ownAt, Pd.bltM, Pd.vals, Pd.lenD, Pd.consM, Pd.callM, Pd.ownSlots, Pd.svsOf, Pd.svOf, Pd.setOwn, Pd.nxS, Pd.setM, isOwn_zero, isOwn_succ, isOwn_nil, isOD_zero, isOD_succ, isOD_nil, ownB_free, mrg_free, Pd.wipeE, mergeE_nil, mergeE_cons, Pd.fldM, Pd.fldOf, fl_rooms, fl_sizes, fl_zones, fl_far, fl_alive, fl_apart, Pd.siM, Pd.seqOf, Pd.asgS, Pd.setS, Pd.dropS, ownM, chkM, b3, lstM, datas, ad]) ⟨w8, m8, rfl⟩ (fun done x rest env hd hp => by
      obtain ⟨z8, n8, rfl⟩ := hp
      have hx := hin x (by rw [← hd]; simp)
      have hv := v_step_right A c hc hF p h x hx
      subst hE
      exact ⟨[some (.own (dr sc y kk)), some (.obj A.C (fl c)), some (.da (.list ((allP c).map eP))), z3, some (.da (.list M)), z5, none, some (.da (eP p)), some (.da (eS x)), none, none], _, by simp [Pd.runN, Pd.runF, Pd.seqS, Pd.ifS, Pd.retS, Pd.withE, Pd.andV, Pd.orV, Pd.boolM, Pd.notM, Pd.andM, Pd.orM, Pd.ifM, Pd.isiM, Pd.bindM, Pd.varM, Pd.liftO, Pd.isiD, Pd.tyOfD, Pd.asB, Pd.notV, Pd.chainM, Pd.op2M, Pd.leD, Pd.ltD, Pd.gtD, Pd.geD, Pd.intD, Pd.retM, Pd.outOf, Pd.ownAt, Pd.bltM, Pd.vals, Pd.lenD, Pd.consM, Pd.callM, Pd.ownSlots, Pd.svsOf, Pd.svOf, Pd.setOwn, Pd.nxS, Pd.setM, isOwn_zero, isOwn_succ, isOwn_nil, isOD_zero, isOD_succ, isOD_nil, ownB_free, mrg_free, Pd.wipeE, mergeE_nil, mergeE_cons, Pd.fldM, Pd.fldOf, fl_rooms, fl_sizes, fl_zones, fl_far, fl_alive, fl_apart, Pd.siM, Pd.seqOf, Pd.asgS, Pd.setS, Pd.dropS, n8], .inl (by simp [Pd.runN, Pd.runF, Pd.seqS, Pd.ifS, Pd.retS, Pd.withE, Pd.andV, Pd.orV, Pd.boolM, Pd.notM, Pd.andM, Pd.orM, Pd.ifM, Pd.isiM, Pd.bindM, Pd.varM, Pd.liftO, Pd.isiD, Pd.tyOfD, Pd.asB, Pd.notV, Pd.chainM, Pd.op2M, Pd.leD, Pd.ltD, Pd.gtD, Pd.geD, Pd.intD, Pd.retM, Pd.outOf, Pd.ownAt, Pd.bltM, Pd.vals, Pd.lenD, Pd.consM, Pd.callM, Pd.ownSlots, Pd.svsOf, Pd.svOf, Pd.setOwn, Pd.nxS, Pd.setM, isOwn_zero, isOwn_succ, isOwn_nil, isOD_zero, isOD_succ, isOD_nil, ownB_free, mrg_free, Pd.wipeE, mergeE_nil, mergeE_cons, Pd.fldM, Pd.fldOf, fl_rooms, fl_sizes, fl_zones, fl_far, fl_alive, fl_apart, Pd.siM, Pd.seqOf, Pd.asgS, Pd.setS, Pd.dropS, hv]), some (.da (eS x)), rfl, rfl⟩)
  exact ⟨kk, z8, n8, b1, b2, h1⟩
theorem each_placing (hCS : A.CS ≠ A.CB) (E : SV) (hE : E = .da (.list ((allP c).map eP))) (hne : allP c ≠ []) (k : Int) (hk : 0 ≤ k ∧ k ≤ 999960000) (w3 w4 w5 : Option SV) (m3 : free w3 = true) (m4 : free w4 = true) (m5 : free w5 = true) :
    ∃ (kk : Int) (z3 z4 z7 z8 : Option SV), free z3 = true ∧ free z4 = true ∧ free z7 = true ∧ free z8 = true ∧ k ≤ kk ∧ kk ≤ k + 200 ∧ c4__law_cluster_right A [some (.own (dr sc y k)), some (.obj A.C (fl c)), some E, w3, w4, w5, none, none, none, none, none] =
      some (.nx [some (.own (dr sc y kk)), some (.obj A.C (fl c)), some E, z3, z4, w5, none, z7, z8, none, none]) := by
  have hrl := hc.rl
  have hsl := hc.sl
  obtain ⟨e, h1, kk, z3, z4, z7, z8, n3, n4, n7, n8, a1, a2, rfl⟩ := forS_inv PyData.int (fi := rg1M (consM (retM (.da (.int 4))) (retM []))) (g := setM 3)
    (body := (seqS (setS 7 (Pd.bindM (ownM 0 (consM (varM 2) (retM []))) (callM (F__law_pick A)))) (seqS (ifS (boolM (op2M neD (Pd.bindM (consM (varM 1) (consM (varM 7) (retM []))) (callM (F_loads A))) (Pd.bindM (consM (varM 1) (consM (varM 7) (retM []))) (callM (F__law_held A))))) (retS (retM (.da (.bool false)))) nxS) (seqS (setS 4 (c2__law_cluster_right A)) (seqS (ifS (boolM (op2M neD (Pd.bindM (consM (varM 1) (consM (varM 7) (retM []))) (callM (F_steps A))) (varM 4))) (retS (retM (.da (.bool false)))) nxS) (seqS (c3__law_cluster_right A) (ifS (notM (boolM (Pd.bindM (ownM 0 (consM (varM 1) (consM (varM 7) (retM [])))) (callM (F__law_way_right A))))) (retS (retM (.da (.bool false)))) nxS)))))))
    (l := ns 4) (env := [some (.own (dr sc y k)), some (.obj A.C (fl c)), some E, w3, w4, w5, none, none, none, none, none])
    (fun done e => ∃ (kk : Int) (z3 z4 z7 z8 : Option SV), free z3 = true ∧ free z4 = true ∧ free z7 = true ∧ free z8 = true ∧ k ≤ kk ∧ kk ≤ k + 30 * done.length ∧ e = [some (.own (dr sc y kk)), some (.obj A.C (fl c)), some E, z3, z4, w5, none, z7, z8, none, none])
    (by rfl) ⟨k, w3, w4, none, none, m3, m4, rfl, rfl, Int.le_refl _, by simp, rfl⟩ (fun done m rest env hd hp => by
      obtain ⟨kk, z3, z4, z7, z8, n3, n4, n7, n8, a1, a2, rfl⟩ := hp
      have hdl : done.length + 1 ≤ 4 := by
        have h := congrArg List.length hd
        rw [ns_len, List.length_append, List.length_cons] at h
        omega
      have e1 : (done ++ [m]).length = done.length + 1 := by simp
      obtain ⟨p, hp, hpk⟩ := v_pick eP A sc y kk hy (by omega) (allP c) hne
      have h := (allP_iff hc).mp hp
      have hml := mvs_len hc h
      have vl := v_loads A c hc p h
      have vh := v_law_held A c p (by omega) (by omega)
      have nl := neD_self (encInt.list.pl (loads c p))
      have hm := v_law_moves A c hc hF p h
      have vs := v_steps A c hc p h (by unfold LIM; omega)
      have es : ((mvs c p).map fun r => eS r.1) = ((mvs c p).map (·.1)).map eS := by rw [List.map_map]; rfl
      have nsS := neD_self (encS.list.pl ((mvs c p).map (·.1)))
      have wc : ∀ k2 : Int, c2__law_cluster_right A [some (.own (dr sc y k2)), some (.obj A.C (fl c)), some E, some (.da (.int m)), z4, w5, none, some (.da (eP p)), z8, none, none] =
          some (.ok (.da (.list (((mvs c p).map (·.1)).map eS))) [some (.own (dr sc y k2)), some (.obj A.C (fl c)), some E, some (.da (.int m)), z4, w5, none, some (.da (eP p)), z8, none, none]) := fun k2 => by
        subst hE
        generalize (allP c).map eP = EE at *
        unfold c2__law_cluster_right
        rw [lcM_tl (eL c) (l := mvs c p) (fun q => some (eS q.1)) (by simp [Pd.runN, Pd.runF, Pd.seqS, Pd.ifS, Pd.retS, Pd.withE, Pd.andV, Pd.orV, Pd.boolM, Pd.notM, Pd.andM, Pd.orM, Pd.ifM, Pd.isiM, Pd.bindM, Pd.varM, Pd.liftO, Pd.isiD, Pd.tyOfD, Pd.asB, Pd.notV, Pd.chainM, Pd.op2M, Pd.leD, Pd.ltD, Pd.gtD, Pd.geD, Pd.intD, Pd.retM, Pd.outOf, Pd.ownAt, Pd.bltM, Pd.vals, Pd.lenD, Pd.consM, Pd.callM, Pd.ownSlots, Pd.svsOf, Pd.svOf, Pd.setOwn, Pd.nxS, Pd.setM, isOwn_zero, isOwn_succ, isOwn_nil, isOD_zero, isOD_succ, isOD_nil, ownB_free, mrg_free, Pd.wipeE, mergeE_nil, mergeE_cons, Pd.fldM, Pd.fldOf, fl_rooms, fl_sizes, fl_zones, fl_far, fl_alive, fl_apart, Pd.siM, Pd.seqOf, Pd.asgS, Pd.setS, Pd.dropS, hm]) (by unfold LIM; omega) (fun q hq => ?_), filterMap_some, List.map_map]
        · rfl
        · unfold stepV eL
          simp [Pd.runN, Pd.runF, Pd.seqS, Pd.ifS, Pd.retS, Pd.withE, Pd.andV, Pd.orV, Pd.boolM, Pd.notM, Pd.andM, Pd.orM, Pd.ifM, Pd.isiM, Pd.bindM, Pd.varM, Pd.liftO, Pd.isiD, Pd.tyOfD, Pd.asB, Pd.notV, Pd.chainM, Pd.op2M, Pd.leD, Pd.ltD, Pd.gtD, Pd.geD, Pd.intD, Pd.retM, Pd.outOf, Pd.ownAt, Pd.bltM, Pd.vals, Pd.lenD, Pd.consM, Pd.callM, Pd.ownSlots, Pd.svsOf, Pd.svOf, Pd.setOwn, Pd.nxS, Pd.setM, isOwn_zero, isOwn_succ, isOwn_nil, isOD_zero, isOD_succ, isOD_nil, ownB_free, mrg_free, Pd.wipeE, mergeE_nil, mergeE_cons, Pd.fldM, Pd.fldOf, fl_rooms, fl_sizes, fl_zones, fl_far, fl_alive, fl_apart, Pd.siM, Pd.seqOf, Pd.asgS, Pd.setS, Pd.dropS, tupG, consG, nilG, n8, n4, m5]
      rw [es] at vs
      obtain ⟨k3, v8, f8, c1, c2, c3⟩ := each_step A c hc hF sc y hy E hE p h (kk + 1) (by omega) (some (.da (.int m))) w5 z8 rfl m5 n8
      obtain ⟨k4, d1, d2, d3⟩ := v_way_right A c hc hF sc y hy p h hCS k3 (by omega)
      subst hE
      generalize (allP c).map eP = EE at *
      generalize (loads c p).map PyData.int = LL at *
      generalize ((mvs c p).map (·.1)).map eS = MM at *
      refine ⟨[some (.own (dr sc y kk)), some (.obj A.C (fl c)), some (.da (.list EE)), some (.da (.int m)), z4, w5, none, z7, z8, none, none], [some (.own (dr sc y k4)), some (.obj A.C (fl c)), some (.da (.list EE)), some (.da (.int m)), some (.da (.list MM)), w5, none, some (.da (eP p)), v8, none, none], by simp [Pd.runN, Pd.runF, Pd.seqS, Pd.ifS, Pd.retS, Pd.withE, Pd.andV, Pd.orV, Pd.boolM, Pd.notM, Pd.andM, Pd.orM, Pd.ifM, Pd.isiM, Pd.bindM, Pd.varM, Pd.liftO, Pd.isiD, Pd.tyOfD, Pd.asB, Pd.notV, Pd.chainM, Pd.op2M, Pd.leD, Pd.ltD, Pd.gtD, Pd.geD, Pd.intD, Pd.retM, Pd.outOf, Pd.ownAt, Pd.bltM, Pd.vals, Pd.lenD, Pd.consM, Pd.callM, Pd.ownSlots, Pd.svsOf, Pd.svOf, Pd.setOwn, Pd.nxS, Pd.setM, isOwn_zero, isOwn_succ, isOwn_nil, isOD_zero, isOD_succ, isOD_nil, ownB_free, mrg_free, Pd.wipeE, mergeE_nil, mergeE_cons, Pd.fldM, Pd.fldOf, fl_rooms, fl_sizes, fl_zones, fl_far, fl_alive, fl_apart, Pd.siM, Pd.seqOf, Pd.asgS, Pd.setS, Pd.dropS, n3], .inl ?_, k4, some (.da (.int m)), some (.da (.list MM)), some (.da (eP p)), v8, rfl, rfl, rfl, f8, by omega, by omega, rfl⟩
      simp [Pd.runN, Pd.runF, Pd.seqS, Pd.ifS, Pd.retS, Pd.withE, Pd.andV, Pd.orV, Pd.boolM, Pd.notM, Pd.andM, Pd.orM, Pd.ifM, Pd.isiM, Pd.bindM, Pd.varM, Pd.liftO, Pd.isiD, Pd.tyOfD, Pd.asB, Pd.notV, Pd.chainM, Pd.op2M, Pd.leD, Pd.ltD, Pd.gtD, Pd.geD, Pd.intD, Pd.retM, Pd.outOf, Pd.ownAt, Pd.bltM, Pd.vals, Pd.lenD, Pd.consM, Pd.callM, Pd.ownSlots, Pd.svsOf, Pd.svOf, Pd.setOwn, Pd.nxS, Pd.setM, isOwn_zero, isOwn_succ, isOwn_nil, isOD_zero, isOD_succ, isOD_nil, ownB_free, mrg_free, Pd.wipeE, mergeE_nil, mergeE_cons, Pd.fldM, Pd.fldOf, fl_rooms, fl_sizes, fl_zones, fl_far, fl_alive, fl_apart, Pd.siM, Pd.seqOf, Pd.asgS, Pd.setS, Pd.dropS, ownM, chkM, hpk, n7, vl, vh, nl, wc, n4, vs, nsS, c3, d3])
  rw [ns_len] at a2
  exact ⟨kk, z3, z4, z7, z8, n3, n4, n7, n8, a1, by omega, h1⟩
theorem v_cluster_right (hCS : A.CS ≠ A.CB) (k : Int) (hk : 0 ≤ k ∧ k ≤ 999950000) : ∃ k', k ≤ k' ∧ k' ≤ k + 400 ∧ F__law_cluster_right A [.own (dr sc y k), .obj A.C (fl c)] = some (.ret (.da (.bool true)) (dr sc y k')) := by
  have ve := v_law_every A c hc
  have vp := v_placings A c hc
  have np := neD_self (encP.list.pl (allP c))
  have nil := encP.list.eqD (allP c) []
  simp only [List.map_nil] at nil
  obtain ⟨k1, z3, z4, z5, n3, n4, n5, a1, a2, a3⟩ := wilds A c hc hF sc y hy _ rfl k (by omega)
  by_cases hn : allP c = []
  · refine ⟨k1, by omega, by omega, ?_⟩
    rw [decide_eq_true hn] at nil
    generalize (allP c).map eP = EE at *
    unfold F__law_cluster_right g__law_cluster_right
    simp [Pd.runN, Pd.runF, Pd.seqS, Pd.ifS, Pd.retS, Pd.withE, Pd.andV, Pd.orV, Pd.boolM, Pd.notM, Pd.andM, Pd.orM, Pd.ifM, Pd.isiM, Pd.bindM, Pd.varM, Pd.liftO, Pd.isiD, Pd.tyOfD, Pd.asB, Pd.notV, Pd.chainM, Pd.op2M, Pd.leD, Pd.ltD, Pd.gtD, Pd.geD, Pd.intD, Pd.retM, Pd.outOf, Pd.ownAt, Pd.bltM, Pd.vals, Pd.lenD, Pd.consM, Pd.callM, Pd.ownSlots, Pd.svsOf, Pd.svOf, Pd.setOwn, Pd.nxS, Pd.setM, isOwn_zero, isOwn_succ, isOwn_nil, isOD_zero, isOD_succ, isOD_nil, ownB_free, mrg_free, Pd.wipeE, mergeE_nil, mergeE_cons, Pd.fldM, Pd.fldOf, fl_rooms, fl_sizes, fl_zones, fl_far, fl_alive, fl_apart, Pd.siM, Pd.seqOf, Pd.asgS, Pd.setS, Pd.dropS, ve, vp, np, a3, lstM, datas, nil]
  · obtain ⟨k2, y3, y4, y7, y8, f3, f4, f7, f8, b1, b2, b3⟩ := each_placing A c hc hF sc y hy hCS _ rfl hn k1 (by omega) z3 z4 z5 n3 n4 n5
    refine ⟨k2, by omega, by omega, ?_⟩
    rw [decide_eq_false hn] at nil
    generalize (allP c).map eP = EE at *
    unfold F__law_cluster_right g__law_cluster_right
    simp [Pd.runN, Pd.runF, Pd.seqS, Pd.ifS, Pd.retS, Pd.withE, Pd.andV, Pd.orV, Pd.boolM, Pd.notM, Pd.andM, Pd.orM, Pd.ifM, Pd.isiM, Pd.bindM, Pd.varM, Pd.liftO, Pd.isiD, Pd.tyOfD, Pd.asB, Pd.notV, Pd.chainM, Pd.op2M, Pd.leD, Pd.ltD, Pd.gtD, Pd.geD, Pd.intD, Pd.retM, Pd.outOf, Pd.ownAt, Pd.bltM, Pd.vals, Pd.lenD, Pd.consM, Pd.callM, Pd.ownSlots, Pd.svsOf, Pd.svOf, Pd.setOwn, Pd.nxS, Pd.setM, isOwn_zero, isOwn_succ, isOwn_nil, isOD_zero, isOD_succ, isOD_nil, ownB_free, mrg_free, Pd.wipeE, mergeE_nil, mergeE_cons, Pd.fldM, Pd.fldOf, fl_rooms, fl_sizes, fl_zones, fl_far, fl_alive, fl_apart, Pd.siM, Pd.seqOf, Pd.asgS, Pd.setS, Pd.dropS, ve, vp, np, a3, lstM, datas, nil, b3]
end
theorem v_law (A : Ads) (hCS : A.CS ≠ A.CB) (sc : List Int) : F_law A [.da (.list (sc.map .int))] = some (.ret (.da (.bool true)) []) := by
  have hrg : ∃ n : Nat, (rg3M (consM (retM (.da (.int 0))) (consM (bltM max2D (consM (retM (.da (.int 1))) (consM (bltM min2D (consM (retM (.da (.int 16))) (consM (bltM lenD (consM (varM 0) (retM []))) (retM [])))) (retM [])))) (consM (retM (.da (.int 4))) (retM []))))) [some (.da (.list (sc.map .int))), none, none] =
      some (.ok (((List.range n).map fun i : Nat => (0 : Int) + i * 4).map .int) [some (.da (.list (sc.map .int))), none, none]) := by
    have hmin : min2D [.da (.int 16), .da (.int sc.length)] = some (.da (.int (if (sc.length : Int) < 16 then sc.length else 16))) := rfl
    generalize hj : (if (sc.length : Int) < 16 then (sc.length : Int) else 16) = j at hmin
    have hjb : 0 ≤ j ∧ j ≤ 16 := by split at hj <;> omega
    have hmax : max2D [.da (.int 1), .da (.int j)] = some (.da (.int (if j > 1 then j else 1))) := rfl
    generalize hi : (if j > 1 then j else 1) = i at hmax
    have hib : 1 ≤ i ∧ i ≤ 16 := by split at hi <;> omega
    have r1 : (-1000000 : Int) ≤ i ∧ i ≤ 1000000 := by omega
    have hr3 : rangeD3 [.da (.int 0), .da (.int i), .da (.int 4)] = some (rangeS 0 4 ((i - 0 + 4 - 1) / 4).toNat) := by
      simp only [rangeD3]
      rw [if_pos ⟨⟨by decide, by decide⟩, r1, by decide, by decide⟩]
    refine ⟨((i - 0 + 4 - 1) / 4).toNat, ?_⟩
    have er : rangeS 0 4 ((i - 0 + 4 - 1) / 4).toNat = ((List.range ((i - 0 + 4 - 1) / 4).toNat).map fun i : Nat => (0 : Int) + i * 4).map .int := by
      unfold rangeS
      rw [List.map_map]
      rfl
    rw [← er]
    generalize rangeS 0 4 ((i - 0 + 4 - 1) / 4).toNat = RR at *
    simp [Pd.runN, Pd.runF, Pd.seqS, Pd.ifS, Pd.retS, Pd.withE, Pd.andV, Pd.orV, Pd.boolM, Pd.notM, Pd.andM, Pd.orM, Pd.ifM, Pd.isiM, Pd.bindM, Pd.varM, Pd.liftO, Pd.isiD, Pd.tyOfD, Pd.asB, Pd.notV, Pd.chainM, Pd.op2M, Pd.leD, Pd.ltD, Pd.gtD, Pd.geD, Pd.intD, Pd.retM, Pd.outOf, Pd.ownAt, Pd.bltM, Pd.vals, Pd.lenD, Pd.consM, Pd.callM, Pd.ownSlots, Pd.svsOf, Pd.svOf, Pd.setOwn, Pd.nxS, Pd.setM, isOwn_zero, isOwn_succ, isOwn_nil, isOD_zero, isOD_succ, isOD_nil, ownB_free, mrg_free, Pd.wipeE, mergeE_nil, mergeE_cons, Pd.fldM, Pd.fldOf, fl_rooms, fl_sizes, fl_zones, fl_far, fl_alive, fl_apart, Pd.siM, Pd.seqOf, Pd.asgS, Pd.setS, Pd.dropS, rg3M, hmin, hmax, hr3]
  obtain ⟨n, hrg⟩ := hrg
  have loop : ∃ z1 z2, c0_law A [some (.da (.list (sc.map .int))), none, none] = some (.nx [some (.da (.list (sc.map .int))), z1, z2]) := by
    obtain ⟨e, h1, z1, z2, n1, n2, rfl⟩ := forS_inv2 PyData.int (l := (List.range n).map fun i : Nat => (0 : Int) + i * 4) (env := [some (.da (.list (sc.map .int))), none, none]) (env1 := [some (.da (.list (sc.map .int))), none, none]) (g := setM 1) (body := thawS 1 2 (seqS (ownS 2 (newLM (consM (varM 0) (consM (varM 1) (consM (retM (.da (.int 0))) (retM [])))))) (ifS (notM (boolM (Pd.bindM (ownM 2 (consM (Pd.bindM (ownM 2 (retM [])) (callM (F__law_cluster A))) (retM []))) (callM (F__law_cluster_right A))))) (retS (retM (.da (.bool false)))) nxS)))
      (fun done e => ∃ z1 z2, free z1 = true ∧ (z2 = none ∨ ∃ ds, z2 = some (.own ds)) ∧ e = [some (.da (.list (sc.map .int))), z1, z2]) hrg ⟨none, none, rfl, .inl rfl, rfl⟩ (fun done by_ rest env hd hp => by
        obtain ⟨z1, z2, n1, n2, rfl⟩ := hp
        have hy : 0 ≤ by_ := by
          have : by_ ∈ (List.range n).map fun i : Nat => (0 : Int) + i * 4 := by rw [← hd]; simp
          obtain ⟨i, _, rfl⟩ := List.mem_map.mp this
          omega
        obtain ⟨c, k1, hc, hF, a1, a2, a3⟩ := v_law_cluster A sc by_ hy 0 (by omega)
        obtain ⟨k2, b1, b2, b3⟩ := v_cluster_right A c hc hF sc by_ hy hCS k1 (by omega)
        refine ⟨[some (.da (.list (sc.map .int))), some (.da (.int by_)), z2], [some (.da (.list (sc.map .int))), some (.da (.int by_)), some (.own (dr sc by_ k2))], by simp [Pd.runN, Pd.runF, Pd.seqS, Pd.ifS, Pd.retS, Pd.withE, Pd.andV, Pd.orV, Pd.boolM, Pd.notM, Pd.andM, Pd.orM, Pd.ifM, Pd.isiM, Pd.bindM, Pd.varM, Pd.liftO, Pd.isiD, Pd.tyOfD, Pd.asB, Pd.notV, Pd.chainM, Pd.op2M, Pd.leD, Pd.ltD, Pd.gtD, Pd.geD, Pd.intD, Pd.retM, Pd.outOf, Pd.ownAt, Pd.bltM, Pd.vals, Pd.lenD, Pd.consM, Pd.callM, Pd.ownSlots, Pd.svsOf, Pd.svOf, Pd.setOwn, Pd.nxS, Pd.setM, isOwn_zero, isOwn_succ, isOwn_nil, isOD_zero, isOD_succ, isOD_nil, ownB_free, mrg_free, Pd.wipeE, mergeE_nil, mergeE_cons, Pd.fldM, Pd.fldOf, fl_rooms, fl_sizes, fl_zones, fl_far, fl_alive, fl_apart, Pd.siM, Pd.seqOf, Pd.asgS, Pd.setS, Pd.dropS, n1], .inl ?_, _, _, rfl, .inr ⟨_, rfl⟩, rfl⟩
        have core : ∀ z, free z = true → (seqS (ownS 2 (newLM (consM (varM 0) (consM (varM 1) (consM (retM (.da (.int 0))) (retM [])))))) (ifS (notM (boolM (Pd.bindM (ownM 2 (consM (Pd.bindM (ownM 2 (retM [])) (callM (F__law_cluster A))) (retM []))) (callM (F__law_cluster_right A))))) (retS (retM (.da (.bool false)))) nxS)) [some (.da (.list (sc.map .int))), some (.da (.int by_)), z] =
            some (.nx [some (.da (.list (sc.map .int))), some (.da (.int by_)), some (.own (dr sc by_ k2))]) := fun z hz => by
          have hdr : [PyData.list (sc.map .int), .int by_, .int 0] = dr sc by_ 0 := rfl
          have hdl : (dr sc by_ 0).length = 3 := rfl
          simp [Pd.runN, Pd.runF, Pd.seqS, Pd.ifS, Pd.retS, Pd.withE, Pd.andV, Pd.orV, Pd.boolM, Pd.notM, Pd.andM, Pd.orM, Pd.ifM, Pd.isiM, Pd.bindM, Pd.varM, Pd.liftO, Pd.isiD, Pd.tyOfD, Pd.asB, Pd.notV, Pd.chainM, Pd.op2M, Pd.leD, Pd.ltD, Pd.gtD, Pd.geD, Pd.intD, Pd.retM, Pd.outOf, Pd.ownAt, Pd.bltM, Pd.vals, Pd.lenD, Pd.consM, Pd.callM, Pd.ownSlots, Pd.svsOf, Pd.svOf, Pd.setOwn, Pd.nxS, Pd.setM, isOwn_zero, isOwn_succ, isOwn_nil, isOD_zero, isOD_succ, isOD_nil, ownB_free, mrg_free, Pd.wipeE, mergeE_nil, mergeE_cons, Pd.fldM, Pd.fldOf, fl_rooms, fl_sizes, fl_zones, fl_far, fl_alive, fl_apart, Pd.siM, Pd.seqOf, Pd.asgS, Pd.setS, Pd.dropS, ownS, newLM, datas, hz, hdr, hdl, ownM, chkM, a3, b3]
        unfold thawS
        rcases n2 with rfl | ⟨ds, rfl⟩
        · rw [if_neg (by simp [isOwn_zero, isOwn_succ])]
          exact core none rfl
        · rw [if_pos (by simp [isOwn_zero, isOwn_succ])]
          exact core (some (.da (.list ds))) rfl)
    exact ⟨z1, z2, h1⟩
  obtain ⟨z1, z2, hloop⟩ := loop
  unfold F_law g_law
  simp [Pd.runN, Pd.runF, Pd.seqS, Pd.ifS, Pd.retS, Pd.withE, Pd.andV, Pd.orV, Pd.boolM, Pd.notM, Pd.andM, Pd.orM, Pd.ifM, Pd.isiM, Pd.bindM, Pd.varM, Pd.liftO, Pd.isiD, Pd.tyOfD, Pd.asB, Pd.notV, Pd.chainM, Pd.op2M, Pd.leD, Pd.ltD, Pd.gtD, Pd.geD, Pd.intD, Pd.retM, Pd.outOf, Pd.ownAt, Pd.bltM, Pd.vals, Pd.lenD, Pd.consM, Pd.callM, Pd.ownSlots, Pd.svsOf, Pd.svOf, Pd.setOwn, Pd.nxS, Pd.setM, isOwn_zero, isOwn_succ, isOwn_nil, isOD_zero, isOD_succ, isOD_nil, ownB_free, mrg_free, Pd.wipeE, mergeE_nil, mergeE_cons, Pd.fldM, Pd.fldOf, fl_rooms, fl_sizes, fl_zones, fl_far, fl_alive, fl_apart, Pd.siM, Pd.seqOf, Pd.asgS, Pd.setS, Pd.dropS, hloop]
end K01
end
section
set_option Elab.async false
set_option linter.all false
set_option maxRecDepth 100000
set_option maxHeartbeats 0
namespace K01
open PySem PySem.Spec PyProof.Rows L2 Pd
theorem cs_ne {K : PySem.W.Frag} {CB CS : Addr} (t : TldC K CB CS) : CS ≠ CB := fun e => by
  have h1 := t.sb
  rw [e, t.bb] at h1
  cases h1
theorem tabs_start {K : PySem.W.Frag} {H : Hp} (hH : ∀ p ∈ csOf K, H p.2 = some (.tbl #[])) : LamX.Tabs (tbsOf K) H := fun p hp => by
  simp only [List.mem_cons, List.not_mem_nil, or_false] at hp
  rcases hp with rfl | rfl
  · exact LamX.TabS.nil (hH _ (by simp))
  · exact LamX.TabS.nil (hH _ (by simp))
theorem law_at (w : World) (mg : Str → Option Value) (fa : Addr) (h : Heap) (K : PySem.W.Frag) (X : K.In h) (c : Seen w h K) (ef : K01h.exFns K = K01h.exVals) (G : h.Ns mainGlobals mg) (hm : mg ("law" : Str) = some (.ref fa)) :
    LamX.LawAtS PySem.Challenge.rw_shardmove_k01_whole_placings w K (L2.CX PySem.Challenge.rw_shardmove_k01_whole_placings.prog w) 13 63 "script" mg fa h := by
  obtain ⟨fd, F⟩ := (c.t.d.def_ 46 (d := K01h.e_law) (by rfl))
  have F : FunD K "law" "law" (defArgs (topS 59)) (defBody (topS 59)) (defScope (topS 59)) [] [] (He.ga K "law") fd := F
  have Fn : Fun K "law" "law" s_law (He.ga K "law") fd := He5.fun_of F
  have e1 := He.glo_ok X G (c.t.d.fact 46 (f := .glo "law") (by rfl))
  have ea : fa = He.ga K "law" := by
    have z := hm.symm.trans e1
    cases z
    rfl
  subst ea
  refine ⟨fd, csOf K, spF K (tbsOf K) (F_law (adsOf K)), fun p hp => ?_, fun p hp => ?_, fun p hp => ?_, fun s u => ?_, fun H a ns hl hbt hH hS => ?_, fun base KB GB tb => ?_⟩
  · simp only [List.mem_cons, List.not_mem_nil, or_false] at hp
    rcases hp with rfl | rfl
    · exact c.empty _ (by unfold K01h.tfK; simp)
    · exact c.empty _ (by unfold K01h.tfK; simp)
  · simp only [List.mem_cons, List.not_mem_nil, or_false] at hp
    rcases hp with rfl | rfl
    · exact c.out _ (by unfold K01h.tfK; simp)
    · exact c.out _ (by unfold K01h.tfK; simp)
  · simp only [List.mem_cons, List.not_mem_nil, or_false] at hp
    rcases hp with rfl | rfl
    · exact PySem.W.codeHd_of_K X (c.hd _ (by unfold K01h.tfK; simp))
    · exact PySem.W.codeHd_of_K X (c.hd _ (by unfold K01h.tfK; simp))
  · exact FunD.bindsA (ps := ["script"]) F (fun _ _ _ _ _ _ us hl => match us, hl with | [_], _ => rfl) s [u] rfl
  · have hin : ∀ l ∈ (tbsOf K).map (·.1), H l = some (.tbl #[]) := fun l hl => by
      simp only [List.map_cons, List.map_nil, List.mem_cons, List.not_mem_nil, or_false] at hl
      rcases hl with rfl | rfl
      · exact hH _ (by simp)
      · exact hH _ (by simp)
    refine ⟨(tbsOf K).map (·.1), [], [.da (.list (ns.map .int))], .ret (.da (.bool true)) [], fun l hl z => ?_, fun l hl => absurd hl (by simp), rfl, by simp, tabs_start hH, fun p hp => List.mem_map_of_mem hp, ?_, v_law _ (cs_ne (told_F X G c).tc) ns, ?_⟩
    · rw [hin l hl] at z; cases z
    · refine .cons ?_ .nil
      refine Dp.lst (a := a) (xs := ns.map V.int) ?_ ?_
      · have no : ∀ {o : HO}, H a = some o → (∀ ps, o ≠ .tbl ps) → a ∉ (tbsOf K).map (·.1) := fun {o} e n z => by
          have := hin a z
          rw [e] at this
          exact n _ (Option.some.inj this)
        rcases hS with (e | ⟨o, e⟩) | e
        · exact .inl (.inl (cut_of e (no e fun ps z => nomatch z)))
        · exact .inl (.inr ⟨o, cut_of e (no e fun ps z => nomatch z)⟩)
        · exact .inr e
      · clear hS hl hbt
        induction ns with
        | nil => exact .nil
        | cons n ns ih => exact .cons (.int n) ih
    · intro v H' f t _ r
      exact Dp.isBool r
  · have T := facts_of (base := base) X G c ef tb
    exact ok_law T Fn
end K01
open PySem PySem.W PySem.Calls PyProof.Rows
theorem PySem.Challenge.cw_shardmove_k01_whole_placings_holds : PySem.Challenge.rw_shardmove_k01_whole_placings.Holds := by
  w_on; o_law
  refine HandSHeadRun.head_any (r := OpenLaw.row PySem.Challenge.rw_shardmove_k01_whole_placings) (q := view (OpenLaw.row PySem.Challenge.rw_shardmove_k01_whole_placings).prog [59]) (H := K01h.hookK) (ob := K01h.seenK) (M := 4000) (loose := K01h.looseK) (d := HandSHeadRun.topDef (OpenLaw.row PySem.Challenge.rw_shardmove_k01_whole_placings).prog 59) (kwd := []) K01h.seenK_eq
    (by kernel_rfl) (fun s => by kernel_rfl) K01h.runK (by kernel_rfl) (by kernel_rfl) (by kernel_rfl) (by rfl) (by first | assumption | decide +kernel) (by decide +kernel) ⟨rfl, rfl, rfl, rfl, rfl, by decide +kernel⟩ ?hw ?hc
  case hw => w_witness2
  case hc =>
    refine LamX.walk_ofTsE (l := PySem.Challenge.rw_shardmove_k01_whole_placings) (n := 63) (k := 13) (x := "script") (CX := fun w => L2.CX PySem.Challenge.rw_shardmove_k01_whole_placings.prog w) rfl (by decide) (by kernel_rfl) ⟨rfl, by decide, by decide⟩ ?F ?X
    case F =>
      intro w mg fa h Y G hmg0
      obtain ⟨K, KX, c, ef⟩ := Y
      have hmg : mg ("law" : PySem.Str) = some (.ref fa) := by
        have e : (HandSHeadRun.topDef (OpenLaw.row PySem.Challenge.rw_shardmove_k01_whole_placings).prog 59).name = ("law" : PySem.Str) := by kernel_rfl
        rw [← e]
        exact hmg0
      exact ⟨K, KX, K01.law_at w mg fa h K KX c ef G hmg⟩
    case X => exact fun w H s e s' ⟨_, _, _, _, _, _, _, _, _, _, _, _, z⟩ => z
end
