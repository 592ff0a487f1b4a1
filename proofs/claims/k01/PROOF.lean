import PyProof.Rows.All
import HandS.ForMost
import HandS.ForExc
import HandS.Wide
import HandS.Lambda
import HandS.ClsMeth
import HandS.Flow
import HandS.TupAny
import HandS.IsInst
import HandS.More
import HandS.Property
import HandS.Zip
import HandS.Exc
import HandS.Words
import HandS.WordsExc
import HandS.SetBool
import HandS.Strs
import HandS.SetFor
import HandS.Ends
import OpenK.AllK
import KE.KOpsOwn
import HandS.SlotsOwn
import PyProof.TwoTypes
import HandS.Head0
import HandS.Head1
import HandS.Head2
import HandS.HeadEnd
import HandS.HeadHook1
import HandS.HeadHook2
import HandS.HeadHook3
import HandS.HeadHook4
import HandS.HeadNt
import HandS.HeadWalk
import HandS.NestedK
import PyProof.ExcBaseAll.ValueError
import PySem.Challenge.RW_keptmeanings_k01_whole_forms
import KE.KStateDown
section
set_option Elab.async false
set_option linter.all false
set_option maxRecDepth 100000
/-! Data without the heap, and how the heap bears it. -/
namespace Dv
open PySem PySem.Spec PyProof.Rows L2

/-- data: values that are known whole; an instance is its class's number and its fields -/
inductive D where
  | non | bl (b : Bool) | int (i : Int) | str (x : Str)
  | tup (l : List D) | lst (l : List D)
  | dic (l : List (Key × D)) | dit (l : List (List Key × D))
  | ins (c : Nat) (l : List (Str × D))
  /-- a class itself -/
  | cl (c : Nat)
  /-- the script: a list of ints that is read only -/
  | scr (l : List Int)

abbrev Ex (H H' : Hp) : Prop := ∀ a o, H a = some o → H' a = some o
theorem Ex.refl (H : Hp) : Ex H H := fun _ _ h => h
theorem Ex.trans {H H1 H2 : Hp} (a : Ex H H1) (b : Ex H1 H2) : Ex H H2 := fun x o h => b x o (a x o h)
theorem Ex.new {H : Hp} {p : Addr} {o : HO} (h : H p = none) : Ex H (upd H p o) := fun a u e => by
  rw [upd_ne (ne_of_none e h)]; exact e
theorem Ex.put {H H' : Hp} {p : Addr} {o : HO} (e : Ex H H') (h : H p = none) : Ex H (upd H' p o) := fun a u ha => by
  rw [upd_ne (ne_of_none ha h)]; exact e a u ha
theorem Ex.none {H H' : Hp} {p : Addr} (e : Ex H H') (h : H' p = none) : H p = none := by
  cases h1 : H p with
  | none => rfl
  | some o => rw [e p o h1] at h; cases h
theorem Ex.same {F H : Hp} {p : Addr} {o u : HO} (e : Ex F H) (h1 : F p = some o) (h2 : H p = some u) : o = u := by
  have := e p o h1; rw [h2] at this; exact (Option.some.inj this).symm
theorem Ex.rd {H H' : Hp} {a : Addr} {u : HO} (e : Ex H H') (h : Rd H a u) : Rd H' a u := by
  rcases h with h | ⟨o, h⟩
  · exact .inl (e a _ h)
  · exact .inr ⟨o, e a _ h⟩
section
variable {K : PySem.W.Frag}
theorem Ex.sl {H H' : Hp} {a : Addr} {xs : List V} (e : Ex H H') (h : SqL K H a xs) : SqL K H' a xs := by
  rcases h with h | h
  · exact .inl (e.rd h)
  · exact .inr h
theorem Ex.st {H H' : Hp} {a : Addr} {xs : List V} (e : Ex H H') (h : SqT K H a xs) : SqT K H' a xs := by
  rcases h with h | h
  · exact .inl (e.rd h)
  · exact .inr h
end

/-- the classes' addresses, by their numbers -/
abbrev CT := Nat → Addr

mutual
/-- the heap bears the data at the value -/
inductive Rep (K : PySem.W.Frag) (ct : CT) (F : Hp) : D → V → Prop where
  | non : Rep K ct F .non .non
  | bl {b : Bool} : Rep K ct F (.bl b) (.bl b)
  | int {i : Int} : Rep K ct F (.int i) (.int i)
  | str {x : Str} : Rep K ct F (.str x) (.str x)
  | cl {c : Nat} : Rep K ct F (.cl c) (.ref (ct c))
  | tup {l : List D} {ws : List V} {a : Addr} : SqT K F a ws → Reps K ct F l ws → Rep K ct F (.tup l) (.ref a)
  | lst {l : List D} {ws : List V} {a : Addr} : F a = some (.lst ws) → Reps K ct F l ws → Rep K ct F (.lst l) (.ref a)
  | scr {l : List Int} {a : Addr} : SqL K F a (l.map V.int) → Rep K ct F (.scr l) (.ref a)
  | dic {l : List (Key × D)} {kvs : List (Key × V)} {a : Addr} : F a = some (.dK kvs) → RepK K ct F l kvs → Rep K ct F (.dic l) (.ref a)
  | dit {l : List (List Key × D)} {kvs : List (List Key × V)} {a : Addr} : F a = some (.dT kvs) → RepT K ct F l kvs → Rep K ct F (.dit l) (.ref a)
  | ins {c : Nat} {l : List (Str × D)} {fs : List (Str × V)} {a dx : Addr} : F a = some (.ins (ct c) dx fs) → RepF K ct F l fs → Rep K ct F (.ins c l) (.ref a)
inductive Reps (K : PySem.W.Frag) (ct : CT) (F : Hp) : List D → List V → Prop where
  | nil : Reps K ct F [] []
  | cons {d : D} {l : List D} {v : V} {ws : List V} : Rep K ct F d v → Reps K ct F l ws → Reps K ct F (d :: l) (v :: ws)
inductive RepK (K : PySem.W.Frag) (ct : CT) (F : Hp) : List (Key × D) → List (Key × V) → Prop where
  | nil : RepK K ct F [] []
  | cons {k : Key} {d : D} {l : List (Key × D)} {v : V} {ws : List (Key × V)} : Rep K ct F d v → RepK K ct F l ws → RepK K ct F ((k, d) :: l) ((k, v) :: ws)
inductive RepT (K : PySem.W.Frag) (ct : CT) (F : Hp) : List (List Key × D) → List (List Key × V) → Prop where
  | nil : RepT K ct F [] []
  | cons {k : List Key} {d : D} {l : List (List Key × D)} {v : V} {ws : List (List Key × V)} : Rep K ct F d v → RepT K ct F l ws → RepT K ct F ((k, d) :: l) ((k, v) :: ws)
inductive RepF (K : PySem.W.Frag) (ct : CT) (F : Hp) : List (Str × D) → List (Str × V) → Prop where
  | nil : RepF K ct F [] []
  | cons {f : Str} {d : D} {l : List (Str × D)} {v : V} {ws : List (Str × V)} : Rep K ct F d v → RepF K ct F l ws → RepF K ct F ((f, d) :: l) ((f, v) :: ws)
end

section
variable {K : PySem.W.Frag} {ct : CT}
mutual
theorem Rep.mono {F F' : Hp} (e : Ex F F') : ∀ {d : D} {v : V}, Rep K ct F d v → Rep K ct F' d v
  | _, _, .non => .non
  | _, _, .bl => .bl
  | _, _, .int => .int
  | _, _, .str => .str
  | _, _, .cl => .cl
  | _, _, .tup h r => .tup (e.st h) (Reps.mono e r)
  | _, _, .lst h r => .lst (e _ _ h) (Reps.mono e r)
  | _, _, .scr h => .scr (e.sl h)
  | _, _, .dic h r => .dic (e _ _ h) (RepK.mono e r)
  | _, _, .dit h r => .dit (e _ _ h) (RepT.mono e r)
  | _, _, .ins h r => .ins (e _ _ h) (RepF.mono e r)
theorem Reps.mono {F F' : Hp} (e : Ex F F') : ∀ {l : List D} {ws : List V}, Reps K ct F l ws → Reps K ct F' l ws
  | _, _, .nil => .nil
  | _, _, .cons h r => .cons (Rep.mono e h) (Reps.mono e r)
theorem RepK.mono {F F' : Hp} (e : Ex F F') : ∀ {l : List (Key × D)} {ws : List (Key × V)}, RepK K ct F l ws → RepK K ct F' l ws
  | _, _, .nil => .nil
  | _, _, .cons h r => .cons (Rep.mono e h) (RepK.mono e r)
theorem RepT.mono {F F' : Hp} (e : Ex F F') : ∀ {l : List (List Key × D)} {ws : List (List Key × V)}, RepT K ct F l ws → RepT K ct F' l ws
  | _, _, .nil => .nil
  | _, _, .cons h r => .cons (Rep.mono e h) (RepT.mono e r)
theorem RepF.mono {F F' : Hp} (e : Ex F F') : ∀ {l : List (Str × D)} {ws : List (Str × V)}, RepF K ct F l ws → RepF K ct F' l ws
  | _, _, .nil => .nil
  | _, _, .cons h r => .cons (Rep.mono e h) (RepF.mono e r)
end
theorem Reps.length {F : Hp} : ∀ {l : List D} {ws : List V}, Reps K ct F l ws → l.length = ws.length
  | _, _, .nil => rfl
  | _, _, .cons _ r => by rw [List.length_cons, List.length_cons, r.length]
theorem Reps.get {F : Hp} : ∀ {l : List D} {ws : List V} {i : Nat} {d : D}, Reps K ct F l ws → l[i]? = some d → ∃ v, ws[i]? = some v ∧ Rep K ct F d v
  | _, _, _, _, .nil, h => by simp at h
  | _, _, 0, _, .cons h _, e => by simp at e; subst e; exact ⟨_, rfl, h⟩
  | _, _, i + 1, _, .cons _ r, e => by
    obtain ⟨v, h1, h2⟩ := Reps.get (i := i) r (by simpa using e)
    exact ⟨v, by simpa using h1, h2⟩
theorem Reps.append {F : Hp} : ∀ {l l' : List D} {ws ws' : List V}, Reps K ct F l ws → Reps K ct F l' ws' → Reps K ct F (l ++ l') (ws ++ ws')
  | _, _, _, _, .nil, s => s
  | _, _, _, _, .cons h r, s => .cons h (Reps.append r s)
theorem Reps.drop {F : Hp} : ∀ {l : List D} {ws : List V} (n : Nat), Reps K ct F l ws → Reps K ct F (l.drop n) (ws.drop n)
  | _, _, 0, r => r
  | _, _, _ + 1, .nil => .nil
  | _, _, n + 1, .cons _ r => Reps.drop n r
theorem Reps.take {F : Hp} : ∀ {l : List D} {ws : List V} (n : Nat), Reps K ct F l ws → Reps K ct F (l.take n) (ws.take n)
  | _, _, 0, _ => .nil
  | _, _, _ + 1, .nil => .nil
  | _, _, n + 1, .cons h r => .cons h (Reps.take n r)
theorem RepF.look {F : Hp} : ∀ {l : List (Str × D)} {ws : List (Str × V)} {f : Str} {d : D}, RepF K ct F l ws → l.lookup f = some d → ∃ v, ws.lookup f = some v ∧ Rep K ct F d v
  | _, _, _, _, .nil, h => by simp at h
  | _, _, f, _, .cons (f := g) h r, e => by
    rw [List.lookup_cons] at e ⊢
    cases q : f == g with
    | true => rw [q] at e; simp at e; subst e; exact ⟨_, rfl, h⟩
    | false => rw [q] at e; exact RepF.look r e
theorem RepF.look_none {F : Hp} : ∀ {l : List (Str × D)} {ws : List (Str × V)} {f : Str}, RepF K ct F l ws → l.lookup f = none → ws.lookup f = none
  | _, _, _, .nil, _ => rfl
  | _, _, f, .cons (f := g) h r, e => by
    rw [List.lookup_cons] at e ⊢
    cases q : f == g with
    | true => rw [q] at e; simp at e
    | false => rw [q] at e; exact RepF.look_none r e
theorem RepF.length {F : Hp} : ∀ {l : List (Str × D)} {ws : List (Str × V)}, RepF K ct F l ws → l.length = ws.length
  | _, _, .nil => rfl
  | _, _, .cons _ r => by rw [List.length_cons, List.length_cons, r.length]
def putD (f : Str) (v : D) : List (Str × D) → List (Str × D)
  | [] => [(f, v)]
  | (g, x) :: r => if g = f then (g, v) :: r else (g, x) :: putD f v r
theorem RepF.putF {F : Hp} {g : Str} {d : D} {v : V} (h : Rep K ct F d v) : ∀ {l : List (Str × D)} {ws : List (Str × V)}, RepF K ct F l ws → RepF K ct F (putD g d l) (putF g v ws)
  | _, _, .nil => .cons h .nil
  | _, _, .cons (f := f) h' r => by
    unfold putD L2.putF
    by_cases q : f = g
    · rw [if_pos q, if_pos q]; exact .cons h r
    · rw [if_neg q, if_neg q]; exact .cons h' (RepF.putF h r)
end

/-! ### how a heap goes on; tables of code objects (where lambdas are made) may be written -/
/-- the tables that are told of -/
class Tt where
  T : List (Addr × Str)
variable [Tt]
/-- nothing is there, or a table -/
def Nw (H : Hp) (a : Addr) : Prop := ∀ o, H a = some o → ∃ ps, o = .tbl ps
theorem not_nw {H : Hp} {a : Addr} {o : HO} (h : H a = some o) (n : ∀ ps, o ≠ .tbl ps := by exact fun _ z => nomatch z) : ¬ Nw H a := fun z => by
  obtain ⟨ps, e⟩ := z o h
  exact n ps e
theorem Nw.of {H : Hp} {a : Addr} (h : H a = none) : Nw H a := fun o q => by rw [h] at q; cases q
structure Ez (H H' : Hp) : Prop where
  ex : LamX.ExtN H H'
  tb : LamX.Tabs Tt.T H'
structure In (F H : Hp) : Prop where
  ex : Ex F H
  nt : ∀ a ps, F a ≠ some (.tbl ps)
  tb : LamX.Tabs Tt.T H
instance {F H : Hp} : CoeFun (In F H) (fun _ => ∀ a o, F a = some o → H a = some o) := ⟨fun e => e.ex⟩
section
variable {F F' H H' H1 H2 : Hp} {p : Addr} {o : HO} {K : PySem.W.Frag} {a : Addr} {xs : List V}
theorem Ez.get (e : Ez H H') (h : H a = some o) (n : ∀ ps, o ≠ .tbl ps := by exact fun _ z => nomatch z) : H' a = some o := e.ex a o h n
theorem Ez.refl (h : LamX.Tabs Tt.T H) : Ez H H := ⟨LamX.ExtN.refl H, h⟩
theorem Ez.trans (a : Ez H H1) (b : Ez H1 H2) : Ez H H2 := ⟨a.ex.trans b.ex, b.tb⟩
theorem Ez.new (t : LamX.Tabs Tt.T H) (h : H p = none) : Ez H (upd H p o) := ⟨fun a u e _ => Ex.new h a u e, t.ext fun a u e => Ex.new h a u e⟩
theorem Ez.nw (e : Ez H H') (h : Nw H' p) : Nw H p := fun o q => Classical.byContradiction fun n => n (h o (e.ex p o q fun ps z => n ⟨ps, z⟩))
theorem Ez.none (e : Ez H H') (h : H' p = none) : Nw H p := e.nw (.of h)
theorem tabs_put {T : List (Addr × Str)} {u : HO} (t : LamX.Tabs T H) (hp : H p = some u) (n1 : ∀ ps, u ≠ .tbl ps) (n2 : ∀ c q, u ≠ LamX.CodeO c q) : LamX.Tabs T (upd H p o) := fun r hr => by
  obtain ⟨ps, h1, h2, h3⟩ := t r hr
  refine ⟨ps, by rw [upd_ne (fun z => by rw [z, hp] at h1; exact n1 ps (Option.some.inj h1))]; exact h1, h2, fun pos cv hc => ?_⟩
  obtain ⟨c, e1, e2⟩ := h3 pos cv hc
  exact ⟨c, e1, by rw [upd_ne (fun z => by rw [z, hp] at e2; exact n2 _ _ (Option.some.inj e2))]; exact e2⟩
/-- an object that is nobody's but ours, and was not there at the start, is written -/
theorem Ez.put {u : HO} (e : Ez H H') (h : Nw H p) (hp : H' p = some u) (n1 : ∀ ps, u ≠ .tbl ps := by exact fun _ z => nomatch z) (n2 : ∀ c q, u ≠ LamX.CodeO c q := by intro _ _ z; unfold LamX.CodeO at z; cases z) : Ez H (upd H' p o) :=
  ⟨fun a w ha n => by
    rw [upd_ne (fun z => by
      subst z
      obtain ⟨ps, q⟩ := h w ha
      exact n ps q)]
    exact e.ex a w ha n, tabs_put e.tb hp n1 n2⟩
theorem In.none (i : In F H) (h : H p = Option.none) : F p = Option.none := i.ex.none h
theorem In.st (i : In F H) (h : SqT K F a xs) : SqT K H a xs := i.ex.st h
theorem In.sl (i : In F H) (h : SqL K F a xs) : SqL K H a xs := i.ex.sl h
theorem In.fwd (i : In F H) (e : Ez H H') : In F H' := ⟨fun a o h => e.ex a o (i.ex a o h) fun ps z => i.nt a ps (z ▸ h), i.nt, e.tb⟩
theorem In.new (i : In F H) (h : H p = Option.none) : In F (upd H p o) := i.fwd (.new i.tb h)
theorem In.put {u : HO} (i : In F H) (h : F p = Option.none) (hp : H p = some u) (n1 : ∀ ps, u ≠ .tbl ps := by exact fun _ z => nomatch z) (n2 : ∀ c q, u ≠ LamX.CodeO c q := by intro _ _ z; unfold LamX.CodeO at z; cases z) : In F (upd H p o) :=
  ⟨fun a w ha => by
    rw [upd_ne (fun z => by subst z; rw [h] at ha; cases ha)]
    exact i.ex a w ha, i.nt, tabs_put i.tb hp n1 n2⟩
end
/-- from frozen F in H to F' in H': all that was tracked stays, what is frozen anew is new -/
structure Step (F H F' H' : Hp) : Prop where
  fz : Ex F F'
  hp : Ez H H'
  in_ : In F' H'
  new : ∀ a, F' a ≠ none → F a ≠ none ∨ Nw H a
theorem Step.refl {F H : Hp} (h : In F H) : Step F H F H := ⟨Ex.refl _, .refl h.tb, h, fun _ h => .inl h⟩
theorem Step.trans {F H F1 H1 F2 H2 : Hp} (a : Step F H F1 H1) (b : Step F1 H1 F2 H2) : Step F H F2 H2 :=
  ⟨a.fz.trans b.fz, a.hp.trans b.hp, b.in_, fun x h => (b.new x h).elim (fun z => a.new x z) fun z => .inr (a.hp.nw z)⟩
/-- a new object, frozen at once -/
theorem Step.lay {F H : Hp} {p : Addr} {o : HO} (h : In F H) (hn : H p = none) (nt : ∀ ps, o ≠ .tbl ps := by exact fun _ z => nomatch z) : Step F H (upd F p o) (upd H p o) := by
  have hf := h.none hn
  refine ⟨Ex.new hf, .new h.tb hn, ⟨fun a u e => ?_, fun a ps z => ?_, (Ez.new h.tb hn).tb⟩, fun a e => ?_⟩
  · by_cases q : a = p
    · subst q; rw [upd_same] at e ⊢; exact e
    · rw [upd_ne q] at e ⊢; exact h _ _ e
  · by_cases q : a = p
    · subst q; rw [upd_same] at z; exact nt ps (Option.some.inj z)
    · rw [upd_ne q] at z; exact h.nt a ps z
  · by_cases q : a = p
    · subst q; exact .inr (.of hn)
    · rw [upd_ne q] at e; exact .inl e
end Dv
end
section
set_option Elab.async false
set_option linter.all false
set_option maxRecDepth 100000
/-! A small language, and what it comes to over data. -/
namespace Dv
open PySem PySem.Spec PyProof.Rows L2

inductive Bop where | add | sub | mul | fdiv | mod
inductive Cop where | eq | ne | lt | le | gt | ge | is | isn | mem | nmem
/-- what isinstance asks for -/
inductive Isa where | ty (n : String) | own (c : Nat)
inductive Kd where | frz | fr | bor
  deriving DecidableEq
inductive Res (α : Type) where | ok (a : α) | er (x : D) | bad
namespace Res
@[inline] def bind {α β : Type} (r : Res α) (f : α → Res β) : Res β := match r with
  | .ok a => f a
  | .er x => .er x
  | .bad => .bad
end Res
def ofO {α : Type} : Option α → Res α
  | some a => .ok a
  | none => .bad

/-- a name: its datum, and whether it is a list or dict that this name alone has -/
abbrev Env := List (Option (D × Bool))
def getE (e : Env) (i : Nat) : Option (D × Bool) := match e[i]? with
  | some x => x
  | none => none

/-! ### operations on data -/
mutual
def toP : D → Option PyData
  | .non => some .none
  | .bl b => some (.bool b)
  | .int i => some (.int i)
  | .str x => some (.str x)
  | .tup l => match toPs l with | some l => some (.tuple l) | none => none
  | .lst l => match toPs l with | some l => some (.list l) | none => none
  | .dic _ => none
  | .dit _ => none
  | .ins _ _ => none
  | .cl _ => none
  | .scr l => some (.list (l.map .int))
def toPs : List D → Option (List PyData)
  | [] => some []
  | d :: l => match toP d with
    | some p => match toPs l with | some l => some (p :: l) | none => none
    | none => none
end
def eqD (x y : D) : Option Bool := match toP x, toP y with
  | some p, some q => if SeqAt.shaped p && SeqAt.shaped q then some (PyData.eqv p q) else none
  | _, _ => none
def flatD : D → Bool
  | .non => true | .bl _ => true | .int _ => true | .str _ => true
  | _ => false
def flatToV : D → Option V
  | .non => some .non | .bl b => some (.bl b) | .int i => some (.int i) | .str x => some (.str x)
  | _ => none
def truth : D → Option Bool
  | .non => some false
  | .bl b => some b
  | .int i => some (i != 0)
  | .str x => if x.length ≤ sizeLine then some ((x.length : Int) != 0) else none
  | .tup l => some (!l.isEmpty)
  | .lst l => some (!l.isEmpty)
  | .dic l => some (!l.isEmpty)
  | .scr l => some (!l.isEmpty)
  | _ => none
def binD : Bop → D → D → Option (D × Kd)
  | .add, .int i, .int j => some (.int (i + j), .frz)
  | .add, .str x, .str y => if x.length + y.length ≤ sizeLine then some (.str (x ++ y), .frz) else none
  | .add, .lst a, .lst b => if a.length + b.length ≤ sizeLine then some (.lst (a ++ b), .fr) else none
  | .add, .tup a, .tup b => if a ≠ [] ∧ a.length + b.length ≤ sizeLine then some (.tup (a ++ b), .frz) else none
  | .sub, .int i, .int j => some (.int (i - j), .frz)
  | .mul, .int i, .int j => if i.natAbs.log2 + j.natAbs.log2 < 1000000 then some (.int (i * j), .frz) else none
  | .fdiv, .int i, .int j => if 0 < j ∧ j.natAbs.log2 < 9000 then some (.int (i / j), .frz) else none
  | .mod, .int i, .int j => if 0 < j then some (.int (i % j), .frz) else none
  | _, _, _ => none
def inD (x : D) (l : List D) : Option Bool := match flatToV x with
  | some v => match l.mapM flatToV with
    | some ws => some (inV v ws)
    | none => none
  | none => none
def valK {κ : Type} [DecidableEq κ] (l : List (κ × D)) (k : κ) : Option D := match l with
  | [] => none
  | (j, d) :: r => if j = k then some d else valK r k
def keyD : D → Option Key
  | .int i => some (.inl i) | .str x => some (.inr x) | _ => none
def cmpD : Cop → D → D → Option Bool
  | .eq, x, y => eqD x y
  | .ne, x, y => (eqD x y).map (!·)
  | .lt, .int i, .int j => some (decide (i < j))
  | .le, .int i, .int j => some (decide (i ≤ j))
  | .gt, .int i, .int j => some (decide (j < i))
  | .ge, .int i, .int j => some (decide (j ≤ i))
  | .is, x, .non => some (match x with | .non => true | _ => false)
  | .isn, x, .non => some (match x with | .non => false | _ => true)
  | .mem, x, .lst l => inD x l
  | .mem, x, .tup l => inD x l
  | .nmem, x, .lst l => (inD x l).map (!·)
  | .nmem, x, .tup l => (inD x l).map (!·)
  | .mem, x, .dic l => match keyD x with | some k => some (valK l k).isSome | none => none
  | .nmem, x, .dic l => match keyD x with | some k => some (valK l k).isNone | none => none
  | _, _, _ => none
def ixD : D → D → Option D
  | .lst l, .int i => atI l i
  | .tup l, .int i => atI l i
  | .scr l, .int i => (atI l i).map .int
  | .dic l, y => match keyD y with | some k => valK l k | none => none
  | _, _ => none
def cutD {α : Type} (xs : List α) (lo hi : Option Int) : List α := (xs.drop (HT.sIx xs.length 0 lo)).take (HT.sIx xs.length xs.length hi - HT.sIx xs.length 0 lo)
def slD (x : D) (lo hi : Option Int) : Option (D × Kd) := match x with
  | .lst l => some (.lst (cutD l lo hi), .fr)
  | .tup l => some (.tup (cutD l lo hi), .frz)
  | .scr l => some (.lst ((cutD l lo hi).map .int), .fr)
  | _ => none
inductive Bt where | len | int | sum | tuple | list | sorted | any | all | max | min | sset
def intOf : D → Option Int
  | .int i => some i
  | _ => none
def blOf : D → Option Bool
  | .bl b => some b
  | _ => none
def insI (i : Int) : List Int → List Int
  | [] => [i]
  | j :: r => if i ≤ j then i :: j :: r else j :: insI i r
def isort : List Int → List Int
  | [] => []
  | i :: r => insI i (isort r)
def dedup : List Int → List Int
  | [] => []
  | i :: r => if r.contains i then dedup r else i :: dedup r
def bltD : Bt → List D → Option (D × Kd)
  | .len, [.str x] => if x.length ≤ sizeLine then some (.int x.length, .frz) else none
  | .len, [.tup l] => some (.int l.length, .frz)
  | .len, [.lst l] => some (.int l.length, .frz)
  | .len, [.scr l] => some (.int l.length, .frz)
  | .sum, [.scr l] => some (.int l.sum, .frz)
  | .len, [.dic l] => some (.int l.length, .frz)
  | .int, [.int i] => some (.int i, .frz)
  | .int, [.bl b] => some (.int (if b then 1 else 0), .frz)
  | .sum, [.lst l] => match l.mapM intOf with | some ns => some (.int ns.sum, .frz) | none => none
  | .tuple, [.lst l] => some (.tup l, .frz)
  | .tuple, [.tup l] => some (.tup l, .frz)
  | .list, [.lst l] => some (.lst l, .fr)
  | .list, [.tup l] => some (.lst l, .fr)
  | .sorted, [.lst l] => match l.mapM intOf with | some ns => if ns.length < 64 then some (.lst ((isort ns).map .int), .fr) else none | none => none
  | .sset, [.lst l] => match l.mapM intOf with | some ns => if ns.length < 64 then some (.lst ((isort (dedup ns)).map .int), .fr) else none | none => none
  | .any, [.lst l] => match l.mapM blOf with | some bs => some (.bl (bs.any id), .frz) | none => none
  | .all, [.lst l] => match l.mapM blOf with | some bs => some (.bl (bs.all id), .frz) | none => none
  | .max, [.int i, .int j] => some (.int (if j > i then j else i), .frz)
  | .min, [.int i, .int j] => some (.int (if j < i then j else i), .frz)
  | _, _ => none
def tyName : D → Option String
  | .non => some "NoneType"
  | .bl _ => some "bool"
  | .int _ => some "int"
  | .str _ => some "str"
  | .tup _ => some "tuple"
  | .lst _ => some "list"
  | .scr _ => some "list"
  | .dic _ => some "dict"
  | .dit _ => some "dict"
  | .ins _ _ => none
  | .cl _ => none
/-- what may be asked for, and what a built-in value of a type is -/
def isaNames : List String := ["int", "str", "bool", "tuple", "list", "dict"]
def isaB (n m : String) : Bool := n == m || (n == "bool" && m == "int")
def isaD : Isa → D → Option Bool
  | .ty m, d => if isaNames.contains m then (match tyName d with
    | some n => some (isaB n m)
    | none => some false) else none
  | .own c, d => match d with
    | .ins c' _ => some (c' == c)
    | _ => some false
def rngD (l : List D) : Option (List D) := match l with
  | [.int n] => if -(2 ^ 62) ≤ n ∧ n < 2 ^ 62 then some ((List.range n.toNat).map fun i => .int (0 + (i : Nat))) else none
  | [.int a, .int b] => if -(2 ^ 62) ≤ a ∧ a < 2 ^ 62 ∧ -(2 ^ 62) ≤ b ∧ b < 2 ^ 62 then some ((List.range (b - a).toNat).map fun i => .int (a + (i : Nat))) else none
  | _ => none
def itemsD : D → Option (List D)
  | .scr l => some (l.map .int)
  | .lst l => some l
  | .tup l => some l
  | _ => none
def zipD (l : List D) : Option (List D) := match l with
  | [.lst a, .lst b] => some ((a.zip b).map fun p => .tup [p.1, p.2])
  | [.tup a, .tup b] => some ((a.zip b).map fun p => .tup [p.1, p.2])
  | _ => none
def enumFrom (n : Nat) : List D → List D
  | [] => []
  | d :: r => .tup [.int n, d] :: enumFrom (n + 1) r
def enumD (l : List D) : Option (List D) := match l with
  | [.lst a] => some (enumFrom 0 a)
  | _ => none
def opN : Bop → Str
  | .add => "__add__" | .sub => "__sub__" | .mul => "__mul__" | .fdiv => "__floordiv__" | .mod => "__mod__"
def opR : Bop → Str
  | .add => "__radd__" | .sub => "__rsub__" | .mul => "__rmul__" | .fdiv => "__rfloordiv__" | .mod => "__rmod__"

inductive M where
  | slot (i : Nat)
  | cst (d : D)
  | gc (x : Str)
  /-- TABLE[a], a in TABLE (not in), TABLE a written dict with text keys -/
  | ixg (x : Str) (a : M)
  | ing (x : Str) (neg : Bool) (a : M)
  | bin (o : Bop) (a b : M)
  | neg (a : M)
  | not (a : M)
  | and (a b : M)
  | or (a b : M)
  | cmp (o : Cop) (a b : M)
  | cmp2 (o p : Cop) (a b c : M)
  | ite (t a b : M)
  | nil
  | cons (a r : M)
  | tup (l : M)
  | lst (l : M)
  | ix (a b : M)
  | sl (a lo hi : M)
  | slL (a lo : M)
  | slH (a hi : M)
  | att (a : M) (f : Str)
  | call (f : Nat) (l : M)
  | make (c : Nat) (l : M)
  | meth (a : M) (m : Str) (l : M)
  | blt (b : Bt) (l : M)
  | isi (a : M) (t : Isa)
  | comp (vs : List Nat) (tg : List Nat) (it t e : M)
  | rng (l : M)
  | zip (l : M)
  | enum (l : M)
  /-- what is never come to -/
  | dead
  /-- C.m(..), m a class method or a static one -/
  | clm (c : Nat) (m : Str) (l : M)
  | stm (c : Nat) (m : Str) (l : M)
  /-- x(..), x a name that holds a class -/
  | mkv (i : Nat) (l : M)
  /-- sorted({e for tg in it if t}) of ints -/
  | sset (vs : List Nat) (tg : List Nat) (it t e : M)
  /-- h(lambda: m) -/
  | lamc (h : Nat) (m : M)
inductive S where
  | dead
  | done
  | seq (s r : S)
  | asg (i : Nat) (m : M)
  | unp (is : List Nat) (m : M)
  | par (i j : Nat) (a b : M)
  | app (i : Nat) (m : M)
  | ext (i : Nat) (m : M)
  | seti (i : Nat) (k m : M)
  | setf (f : Str) (m : M)
  | aug (i : Nat) (o : Bop) (m : M)
  | ex (m : M)
  | ite (t : M) (a b : S)
  | for_ (tg : List Nat) (it : M) (b : S)
  | whl (t : M) (b : S)
  | ret (m : M)
  | rets (i : Nat)
  | retn
  | brk
  | cnt
  | pass
  | raise (c : Nat)
  | frz (is : List Nat)

structure Df where
  np : Nat
  ns : Nat
  body : S
structure Cl where
  init : Nat
  flds : List Str
  meths : List (Str × Nat)
  props : List (Str × Nat)
  cms : List (Str × Nat) := []
  sts : List (Str × Nat) := []
/-- a def that calls what it got: what it makes of what comes back, and of errors of classes -/
structure Hd where
  att : Option Str
  hs : List (List Nat × D)
structure Gm where
  defs : List Df
  cls : List Cl
  consts : List (Str × D)
  tabs : List (Str × List (Str × D))
  hds : List Hd := []

def lookC (G : Gm) (c : Nat) (m : Str) : Option Nat := match G.cls[c]? with
  | some k => k.meths.lookup m
  | none => none
def lookF (G : Gm) (c : Nat) (f : Str) : Bool := match G.cls[c]? with
  | some k => k.flds.contains f
  | none => false
def lookP (G : Gm) (c : Nat) (m : Str) : Option Nat := match G.cls[c]? with
  | some k => k.props.lookup m
  | none => none
def lookM (G : Gm) (c : Nat) (m : Str) : Option Nat := match G.cls[c]? with
  | some k => k.cms.lookup m
  | none => none
def lookS (G : Gm) (c : Nat) (m : Str) : Option Nat := match G.cls[c]? with
  | some k => k.sts.lookup m
  | none => none
def setM (is : List Nat) (ds : List D) (e : Env) : Option Env := match is, ds with
  | [], [] => some e
  | i :: is, d :: ds => setM is ds (e.set i (some (d, false)))
  | _, _ => none
def bindT (tg : List Nat) (d : D) (e : Env) : Option Env := match tg with
  | [i] => some (e.set i (some (d, false)))
  | is => match d with
    | .tup l => setM is l e
    | _ => none
def wipeE (e : Env) : List Nat → Env
  | [] => e
  | v :: vs => (wipeE e vs).set v none
def compL (tt : Env → Res (D × Kd)) (te : Env → Res (D × Kd)) (tg : List Nat) (e : Env) : List D → Res (List D)
  | [] => .ok []
  | d :: r => match bindT tg d e with
    | none => .bad
    | some e1 => match tt e1 with
      | .ok b => (match truth b.1 with
        | none => .bad
        | some false => compL tt te tg e r
        | some true => match te e1 with
          | .ok x => if x.2 = .bor then .bad else (match compL tt te tg e r with | .ok l => .ok (x.1 :: l) | _ => .bad)
          | _ => .bad)
      | _ => .bad
/-- the classes that are asked about are there -/
def okC (G : Gm) (t : Isa) (d : D) : Bool := (match t with
  | .own c => (G.cls[c]?).isSome
  | _ => true) && (match d with
  | .ins c _ => (G.cls[c]?).isSome
  | .cl _ => false
  | _ => true)
section
variable (G : Gm) (cl : Nat → List D → Res (D × Kd)) (mk : Nat → List D → Res D)
/-- own def f with these; ok only if a name's own list that is handed in is not handed back -/
def callB (k : Kd) (f : Nat) (ds : List D) : Res (D × Kd) := match k with
  | .bor => (cl f ds).bind fun r => if flatD r.1 then .ok r else .bad
  | _ => cl f ds
def isIns : D → Option Nat
  | .ins c _ => some c
  | _ => none
/-- what may stand beside an instance of class c -/
def besideOk (c : Nat) : D → Bool
  | .ins c' _ => c' == c
  | .cl _ => false
  | .dit _ => false
  | _ => true
def leftOk : Bop → D → Bool
  | .add, .int _ => true
  | .sub, .int _ => true
  | .mul, .int _ => true
  | _, _ => false
def binM (o : Bop) (nb : Bool) (x y : D) : Res (D × Kd) := match isIns x with
  | some c => (match nb && besideOk c y, lookC G c (opN o) with | true, some f => cl f [x, y] | _, _ => .bad)
  | none => match isIns y with
    | some c => (match nb && leftOk o x, lookC G c (opN o), lookC G c (opR o) with | true, some _, some f => cl f [y, x] | _, _, _ => .bad)
    | none => ofO (binD o x y)
def nbor (k k' : Kd) : Bool := match k, k' with
  | .bor, _ => false
  | _, .bor => false
  | _, _ => true
def ownEq (c : Nat) (x y : D) : Res Bool := match lookC G c "__eq__" with
  | some f => (cl f [x, y]).bind fun r => match r.1 with | .bl b => .ok b | _ => .bad
  | none => .bad
def cmpM (o : Cop) (nb : Bool) (x y : D) : Res Bool := match o, isIns x, isIns y with
  | .eq, some c, _ => if nb && besideOk c y then ownEq G cl c x y else .bad
  | .ne, some c, _ => if nb && besideOk c y then (ownEq G cl c x y).bind fun b => .ok (!b) else .bad
  | .mem, _, some c => if nb then (match lookC G c "__contains__" with
    | some f => (cl f [y, x]).bind fun r => match r.1 with | .bl b => .ok b | _ => .bad
    | none => .bad) else .bad
  | _, none, none => ofO (cmpD o x y)
  | _, _, _ => .bad
def bltM (b : Bt) (nb : Bool) (l : List D) : Res (D × Kd) := match b, nb, l with
  | .len, true, [.ins c fs] => (match lookC G c "__len__" with
    | some f => (cl f [.ins c fs]).bind fun r => match r.1 with | .int i => if 0 ≤ i ∧ i < 2 ^ 62 then .ok r else .bad | _ => .bad
    | none => .bad)
  | _, _, _ => ofO (bltD b l)
def itemsOf (d : D) : List D := match d with
  | .lst l => l
  | _ => []
/-- what a def makes of what comes back from what it got -/
def hdOk (hd : Hd) (x : D × Kd) : Res (D × Kd) := match hd.att with
  | none => if x.2 = .bor then .bad else .ok x
  | some f => match x.1 with
    | .ins c fs => (match fs.lookup f with
      | some d => if lookF G c f then .ok (d, .frz) else .bad
      | none => .bad)
    | _ => .bad
def hdEr (hd : Hd) (x : D) : Res (D × Kd) := match x with
  | .ins c _ => (match hd.hs.find? (fun p => p.1.contains c) with
    | some p => .ok (p.2, .frz)
    | none => .bad)
  | _ => .bad
/-- what an expression comes to -/
def evE : M → Env → Res (D × Kd)
  | .slot i, e => match getE e i with
    | some (d, true) => .ok (d, .bor)
    | some (d, false) => .ok (d, .frz)
    | _ => .bad
  | .cst d, _ => .ok (d, .frz)
  | .gc x, _ => match G.consts.lookup x with
    | some d => .ok (d, .frz)
    | none => .bad
  | .ixg x a, e => match G.tabs.lookup x with
    | none => .bad
    | some l => (evE a e).bind fun y => match y.1 with
      | .str z => (match l.lookup z with | some d => .ok (d, .frz) | none => .bad)
      | _ => .bad
  | .ing x neg a, e => match G.tabs.lookup x with
    | none => .bad
    | some l => (evE a e).bind fun y => match y.1 with
      | .str z => .ok (.bl (if neg then (l.lookup z).isNone else (l.lookup z).isSome), .frz)
      | _ => .bad
  | .bin o a b, e => (evE a e).bind fun x => (evE b e).bind fun y => binM G cl o (nbor x.2 y.2) x.1 y.1
  | .neg a, e => (evE a e).bind fun x => match x.1 with
    | .int i => .ok (.int (-i), .frz)
    | .ins c fs => match lookC G c "__neg__" with | some f => if x.2 = .bor then .bad else cl f [.ins c fs] | none => .bad
    | _ => .bad
  | .not a, e => (evE a e).bind fun x => match truth x.1 with | some b => .ok (.bl (!b), .frz) | none => .bad
  | .and a b, e => (evE a e).bind fun x => match truth x.1 with
    | some true => evE b e
    | some false => .ok x
    | none => .bad
  | .or a b, e => (evE a e).bind fun x => match truth x.1 with
    | some true => .ok x
    | some false => evE b e
    | none => .bad
  | .cmp o a b, e => (evE a e).bind fun x => (evE b e).bind fun y => (cmpM G cl o (nbor x.2 y.2) x.1 y.1).bind fun b => .ok (.bl b, .frz)
  | .cmp2 o p a b c, e => (evE a e).bind fun x => (evE b e).bind fun y => if flatD y.1 then (cmpM G cl o (nbor x.2 y.2) x.1 y.1).bind fun k => match k with
    | false => .ok (.bl false, .frz)
    | true => (evE c e).bind fun z => (cmpM G cl p (nbor y.2 z.2) y.1 z.1).bind fun b => .ok (.bl b, .frz)
    else .bad
  | .ite t a b, e => (evE t e).bind fun x => match truth x.1 with
    | some true => evE a e
    | some false => evE b e
    | none => .bad
  | .nil, _ => .ok (.lst [], .frz)
  | .cons a r, e => (evE a e).bind fun x => (evE r e).bind fun l => .ok (.lst (x.1 :: itemsOf l.1), if x.2 = .bor ∨ l.2 = .bor then .bor else .frz)
  | .tup l, e => (evE l e).bind fun x => if x.2 = .bor then .bad else .ok (.tup (itemsOf x.1), .frz)
  | .lst l, e => (evE l e).bind fun x => if x.2 = .bor then .bad else .ok (.lst (itemsOf x.1), .fr)
  | .ix a b, e => (evE a e).bind fun x => (evE b e).bind fun y => match ixD x.1 y.1 with
    | some d => .ok (d, .frz)
    | none => match x.1 with
      | .ins c fs => match nbor x.2 y.2, lookC G c "__getitem__" with | true, some f => cl f [x.1, y.1] | _, _ => .bad
      | _ => .bad
  | .sl a lo hi, e => (evE a e).bind fun x => (evE lo e).bind fun u => match u.1 with
    | .int i => (evE hi e).bind fun v => match v.1 with
      | .int j => ofO (slD x.1 (some i) (some j))
      | _ => .bad
    | _ => .bad
  | .slL a lo, e => (evE a e).bind fun x => (evE lo e).bind fun u => match u.1 with
    | .int i => ofO (slD x.1 (some i) none)
    | _ => .bad
  | .slH a hi, e => (evE a e).bind fun x => (evE hi e).bind fun u => match u.1 with
    | .int i => ofO (slD x.1 none (some i))
    | _ => .bad
  | .att a f, e => (evE a e).bind fun x => match x.1 with
    | .ins c fs => match fs.lookup f with
      | some d => if lookF G c f then .ok (d, .frz) else .bad
      | none => match lookP G c f with | some g => if x.2 = .bor then .bad else (match cl g [x.1] with | .ok r => .ok r | _ => .bad) | none => .bad
    | _ => .bad
  | .call f l, e => (evE l e).bind fun x => callB cl x.2 f (itemsOf x.1)
  | .make c l, e => (evE l e).bind fun x => if x.2 = .bor then .bad else (mk c (itemsOf x.1)).bind fun d => .ok (d, .frz)
  | .meth a m l, e => (evE a e).bind fun x => match x.1 with
    | .ins c fs => match fs.lookup m, lookC G c m with
      | none, some f => if x.2 = .bor then .bad else (evE l e).bind fun y => if y.2 = .bor then .bad else cl f (x.1 :: itemsOf y.1)
      | _, _ => .bad
    | _ => .bad
  | .blt b l, e => (evE l e).bind fun x => bltM G cl b (nbor x.2 x.2) (itemsOf x.1)
  | .isi a t, e => (evE a e).bind fun x => match okC G t x.1, isaD t x.1 with | true, some b => .ok (.bl b, .frz) | _, _ => .bad
  | .comp vs tg it t c, e => (evE it e).bind fun x => if x.2 = .bor then .bad else match itemsD x.1 with
    | some l => if 100000 < l.length then .bad else (compL (evE t) (evE c) tg (wipeE e vs) l).bind fun ds => .ok (.lst ds, .fr)
    | none => .bad
  | .rng l, e => (evE l e).bind fun x => if x.2 = .bor then .bad else match rngD (itemsOf x.1) with | some l => .ok (.lst l, .frz) | none => .bad
  | .zip l, e => (evE l e).bind fun x => if x.2 = .bor then .bad else match zipD (itemsOf x.1) with | some l => .ok (.lst l, .frz) | none => .bad
  | .enum l, e => (evE l e).bind fun x => if x.2 = .bor then .bad else match enumD (itemsOf x.1) with | some l => .ok (.lst l, .frz) | none => .bad
  | .dead, _ => .bad
  | .clm c m l, e => match lookM G c m with
    | some f => (evE l e).bind fun x => if x.2 = .bor then .bad else cl f (.cl c :: itemsOf x.1)
    | none => .bad
  | .stm c m l, e => match lookS G c m with
    | some f => (evE l e).bind fun x => if x.2 = .bor then .bad else cl f (itemsOf x.1)
    | none => .bad
  | .mkv i l, e => match getE e i with
    | some (.cl c, false) => if (G.cls[c]?).isSome then (evE l e).bind fun x => if x.2 = .bor then .bad else (mk c (itemsOf x.1)).bind fun d => .ok (d, .frz) else .bad
    | _ => .bad
  | .sset vs tg it t c, e => (evE it e).bind fun x => if x.2 = .bor then .bad else match itemsD x.1 with
    | some l => if 1000 < l.length then .bad else (compL (evE t) (evE c) tg (wipeE e vs) l).bind fun ds => ofO (bltD .sset [.lst ds])
    | none => .bad
  | .lamc h m, e => match G.hds[h]? with
    | some hd => (match evE m e with
      | .ok x => hdOk G hd x
      | .er x => hdEr hd x
      | .bad => .bad)
    | none => .bad

inductive Out where | nx (e : Env) | rt (d : D) (k : Kd) | bk (e : Env) | ct (e : Env) | er (x : D) | bad
def Out.of (r : Res (D × Kd)) (f : D → Kd → Out) : Out := match r with
  | .ok x => f x.1 x.2
  | .er x => .er x
  | .bad => .bad
def isOwn : Kd → Bool
  | .fr => true
  | _ => false
/-- an instance that is no one's yet: no name takes it -/
def insFr (d : D) (k : Kd) : Bool := match d, k with
  | .ins _ _, .fr => true
  | _, _ => false
def forL (b : Env → Out) (tg : List Nat) : List D → Env → Out
  | [], e => .nx e
  | d :: r, e => match bindT tg d e with
    | none => .bad
    | some e1 => match b e1 with
      | .nx e2 => forL b tg r e2
      | .ct e2 => forL b tg r e2
      | .bk e2 => .nx e2
      | o => o
def whlL (t : Env → Res (D × Kd)) (b : Env → Out) : Nat → Env → Out
  | 0, _ => .bad
  | n + 1, e => Out.of (t e) fun x _ => match truth x with
    | none => .bad
    | some false => .nx e
    | some true => match b e with
      | .nx e2 => whlL t b n e2
      | .ct e2 => whlL t b n e2
      | .bk e2 => .nx e2
      | o => o
def frzE : List Nat → Env → Env
  | [], e => e
  | i :: is, e => match getE e i with
    | some (d, true) => frzE is (e.set i (some (d, false)))
    | _ => frzE is e
def setD (c k v : D) : Option D := match c with
  | .lst l => match k with
    | .int i => match ixN l.length i with | some j => some (.lst (l.set j v)) | none => none
    | _ => none
  | _ => none
variable (wf : Nat)
def evS : S → Env → Out
  | .dead, _ => .bad
  | .done, e => .nx e
  | .seq s r, e => match evS s e with
    | .nx e1 => evS r e1
    | o => o
  | .asg i m, e => Out.of (evE G cl mk m e) fun d k => if k = .bor ∨ insFr d k = true then .bad else .nx (e.set i (some (d, isOwn k)))
  | .unp is m, e => Out.of (evE G cl mk m e) fun d _ => match d with
    | .tup l => match setM is l e with | some e1 => .nx e1 | none => .bad
    | _ => .bad
  | .par i j a b, e => Out.of (evE G cl mk (.cons a (.cons b .nil)) e) fun d k => if k = .bor then .bad else match itemsOf d with
    | [x, y] => .nx ((e.set i (some (x, false))).set j (some (y, false)))
    | _ => .bad
  | .app i m, e => match getE e i with
    | some (.lst l, true) => if l.length < sizeLine then Out.of (evE G cl mk m e) fun d k => if k = .bor then .bad else .nx (e.set i (some (.lst (l ++ [d]), true))) else .bad
    | _ => .bad
  | .ext i m, e => match getE e i with
    | some (.lst l, true) => Out.of (evE G cl mk m e) fun d k => if k = .bor then .bad else match d with
      | .lst l' => if l.length + l'.length ≤ sizeLine then .nx (e.set i (some (.lst (l ++ l'), true))) else .bad
      | .tup l' => if l.length + l'.length ≤ sizeLine then .nx (e.set i (some (.lst (l ++ l'), true))) else .bad
      | _ => .bad
    | _ => .bad
  | .seti i k m, e => Out.of (evE G cl mk (.cons m (.cons k .nil)) e) fun d kd => if kd = .bor then .bad else match itemsOf d with
    | [v, x] => match getE e i with
      | some (c, true) => match setD c x v with | some c' => .nx (e.set i (some (c', true))) | none => .bad
      | _ => .bad
    | _ => .bad
  | .setf f m, e => Out.of (evE G cl mk m e) fun d k => if k = .bor then .bad else match getE e 0 with
    | some (.ins c fs, true) => if fs.length < 900 && lookF G c f then .nx (e.set 0 (some (.ins c (putD f d fs), true))) else .bad
    | _ => .bad
  | .aug i o m, e => match getE e i with
    | some (.int x, false) => Out.of (evE G cl mk m e) fun d _ => match d, o with
      | .int y, .add => .nx (e.set i (some (.int (x + y), false)))
      | .int y, .sub => .nx (e.set i (some (.int (x - y), false)))
      | _, _ => .bad
    | _ => .bad
  | .ex m, e => Out.of (evE G cl mk m e) fun _ _ => .nx e
  | .ite t a b, e => Out.of (evE G cl mk t e) fun x _ => match truth x with
    | some true => evS a e
    | some false => evS b e
    | none => .bad
  | .for_ tg it b, e => Out.of (evE G cl mk it e) fun d k => if k = .bor then .bad else match itemsD d with
    | some l => forL (evS b) tg l e
    | none => .bad
  | .whl t b, e => whlL (evE G cl mk t) (evS b) wf e
  | .ret m, e => Out.of (evE G cl mk m e) fun d k => if k = .bor then .bad else .rt d k
  | .rets i, e => match getE e i with
    | some (d, true) => .rt d .fr
    | some (d, false) => .rt d .frz
    | none => .bad
  | .retn, _ => .rt .non .frz
  | .brk, e => .bk e
  | .cnt, e => .ct e
  | .pass, e => .nx e
  | .raise c, _ => .er (.ins c [])
  | .frz is, e => .nx (frzE is e)
end
def envOf (np ns : Nat) (ds : List D) : Env := ds.map (fun d => some (d, false)) ++ List.replicate (ns - np) none
/-- own defs and classes, with so many calls one in another -/
def evC (G : Gm) (wf : Nat) : Nat → (Nat → List D → Res (D × Kd)) × (Nat → List D → Res D)
  | 0 => (fun _ _ => .bad, fun _ _ => .bad)
  | n + 1 =>
    let r := evC G wf n
    (fun f ds => match G.defs[f]? with
      | some d => if ds.length = d.np then match evS G r.1 r.2 wf d.body (envOf d.np d.ns ds) with
          | .rt x k => .ok (x, k)
          | .nx _ => .ok (.non, .frz)
          | .er x => .er x
          | _ => .bad
        else .bad
      | none => .bad,
     fun c ds => match G.cls[c]? with
      | some k => match G.defs[k.init]? with
        | some d => if ds.length + 1 = d.np then match evS G r.1 r.2 wf d.body (some (.ins c [], true) :: envOf (d.np - 1) (d.ns - 1) ds) with
            | .nx e => match getE e 0 with
              | some (.ins c' l, true) => .ok (.ins c' l)
              | _ => .bad
            | .er x => .er x
            | _ => .bad
          else .bad
        | none => .bad
      | none => .bad)
end Dv
end
section
set_option Elab.async false
set_option linter.all false
set_option maxRecDepth 100000
/-! The readings of the small language, and what carries over. -/
namespace Dv
open PySem PySem.Spec PyProof.Rows L2
variable [Tt]

section
variable (K : PySem.W.Frag) (ct : CT)
/-- at p stands the datum itself; what is in it is frozen -/
def Own (F H : Hp) (p : Addr) : D → Prop
  | .lst l => ∃ ws, H p = some (.lst ws) ∧ Reps K ct F l ws
  | .dic l => ∃ ws, H p = some (.dK ws) ∧ RepK K ct F l ws
  | .dit l => ∃ ws, H p = some (.dT ws) ∧ RepT K ct F l ws
  | .ins c l => ∃ dx ws, H p = some (.ins (ct c) dx ws) ∧ RepF K ct F l ws
  | _ => False
/-- a value of a kind -/
def Val (F H : Hp) (k : Kd) (d : D) (v : V) : Prop := match k with
  | .frz => Rep K ct F d v
  | .bor => ∃ p, v = .ref p ∧ F p = none ∧ Own K ct F H p d
  | .fr => ∃ p, v = .ref p ∧ F p = none ∧ Own K ct F H p d
/-- a value of some kind -/
def AVal (F H : Hp) (d : D) (v : V) : Prop := Rep K ct F d v ∨ ∃ p, v = .ref p ∧ F p = none ∧ Own K ct F H p d
inductive AVals (F H : Hp) : List D → List V → Prop where
  | nil : AVals F H [] []
  | cons {d : D} {l : List D} {v : V} {ws : List V} : AVal K ct F H d v → AVals F H l ws → AVals F H (d :: l) (v :: ws)
def KRep (F H F' H' : Hp) (k : Kd) (d : D) (v : V) : Prop := Val K ct F' H' k d v ∧ (k = .fr → ∀ p, v = .ref p → Nw H p)
/-- an error -/
def XRep (H : Hp) (x : D) (cls : Value) (dd : Option Addr) : Prop :=
  ∃ c l, x = .ins c l ∧ cls = .ref (ct c) ∧ ((l = [] ∧ dd = none) ∨ ∃ a fs, dd = some a ∧ H a = some (.xd fs) ∧ RepF K ct H l fs)
def Post (F H : Hp) (Er : XK) (Q : VK) : Res (D × Kd) → Prop
  | .ok x => ∀ F' H' v, Step F H F' H' → KRep K ct F H F' H' x.2 x.1 v → Q v H'
  | .er x => ∀ H' cls dd, Ez H H' → XRep K ct H' x cls dd → Er cls dd H'
  | .bad => False
/-- an argument list -/
def PostA (F H : Hp) (Er : XK) (Q : List V → Hp → Prop) : Res (D × Kd) → Prop
  | .ok x => ∀ F' H' vs, Step F H F' H' → AVals K ct F' H' (itemsOf x.1) vs → (x.2 ≠ .bor → Reps K ct F' (itemsOf x.1) vs) → Q vs H'
  | .er x => ∀ H' cls dd, Ez H H' → XRep K ct H' x cls dd → Er cls dd H'
  | .bad => False
structure SOk (F H : Hp) (σ : L2.St) (e : Env) : Prop where
  in_ : In F H
  len : σ.length = e.length
  fz : ∀ i d, getE e i = some (d, false) → ∃ v, σ[i]? = some (some v) ∧ Rep K ct F d v
  ow : ∀ i d, getE e i = some (d, true) → ∃ p, σ[i]? = some (some (.ref p)) ∧ F p = none ∧ Own K ct F H p d
  ap : ∀ i j d d' p, getE e i = some (d, true) → getE e j = some (d', true) → σ[i]? = some (some (.ref p)) → σ[j]? = some (some (.ref p)) → i = j
end
section
variable {K : PySem.W.Frag} {ct : CT} {F H F' H' F1 H1 F2 H2 : Hp} {p : Addr} {d : D} {v : V} {k : Kd} {σ : L2.St} {e : Env} {Er : XK}
theorem Own.mono (a : Ex F F') (b : Ez H H') : ∀ {d : D}, Own K ct F H p d → Own K ct F' H' p d
  | .lst _, ⟨ws, h, r⟩ => ⟨ws, b.get h, r.mono a⟩
  | .dic _, ⟨ws, h, r⟩ => ⟨ws, b.get h, r.mono a⟩
  | .dit _, ⟨ws, h, r⟩ => ⟨ws, b.get h, r.mono a⟩
  | .ins _ _, ⟨dx, ws, h, r⟩ => ⟨dx, ws, b.get h, r.mono a⟩
  | .non, h => h.elim
  | .bl _, h => h.elim
  | .int _, h => h.elim
  | .str _, h => h.elim
  | .tup _, h => h.elim
  | .scr _, h => h.elim
theorem Own.there : ∀ {d : D}, Own K ct F H p d → ¬ Nw H p
  | .lst _, ⟨ws, h, r⟩, z => by obtain ⟨ps, q⟩ := z _ h; cases q
  | .dic _, ⟨ws, h, r⟩, z => by obtain ⟨ps, q⟩ := z _ h; cases q
  | .dit _, ⟨ws, h, r⟩, z => by obtain ⟨ps, q⟩ := z _ h; cases q
  | .ins _ _, ⟨dx, ws, h, r⟩, z => by obtain ⟨ps, q⟩ := z _ h; cases q
  | .non, h, _ => h
  | .bl _, h, _ => h
  | .int _, h, _ => h
  | .str _, h, _ => h
  | .tup _, h, _ => h
  | .scr _, h, _ => h
/-- what stands there -/
theorem Own.obj : ∀ {d : D}, Own K ct F H p d → ∃ o, H p = some o ∧ (∀ ps, o ≠ .tbl ps) ∧ ∀ F', Ex F F' → F' p = some o → Rep K ct F' d (.ref p)
  | .lst _, ⟨ws, h, r⟩ => ⟨_, h, (fun _ z => nomatch z), fun F' e z => .lst z (r.mono e)⟩
  | .dic _, ⟨ws, h, r⟩ => ⟨_, h, (fun _ z => nomatch z), fun F' e z => .dic z (r.mono e)⟩
  | .dit _, ⟨ws, h, r⟩ => ⟨_, h, (fun _ z => nomatch z), fun F' e z => .dit z (r.mono e)⟩
  | .ins _ _, ⟨dx, ws, h, r⟩ => ⟨_, h, (fun _ z => nomatch z), fun F' e z => .ins z (r.mono e)⟩
  | .non, h => h.elim
  | .bl _, h => h.elim
  | .int _, h => h.elim
  | .str _, h => h.elim
  | .tup _, h => h.elim
  | .scr _, h => h.elim
theorem Step.keep (s : Step F H F' H') (hn : F p = none) (hp : ¬ Nw H p) : F' p = none := by
  cases q : F' p with
  | none => rfl
  | some o => exact ((s.new p (by rw [q]; exact fun z => nomatch z)).elim (fun z => (z hn).elim) fun z => (hp z).elim)
theorem Val.step (s : Step F H F' H') : ∀ {k : Kd}, Val K ct F H k d v → Val K ct F' H' k d v
  | .frz, h => Rep.mono s.fz h
  | .bor, ⟨p, e, n, o⟩ => ⟨p, e, s.keep n o.there, o.mono s.fz s.hp⟩
  | .fr, ⟨p, e, n, o⟩ => ⟨p, e, s.keep n o.there, o.mono s.fz s.hp⟩
theorem AVal.step (s : Step F H F' H') (h : AVal K ct F H d v) : AVal K ct F' H' d v := by
  rcases h with h | ⟨p, e, n, o⟩
  · exact .inl (Rep.mono s.fz h)
  · exact .inr ⟨p, e, s.keep n o.there, o.mono s.fz s.hp⟩
theorem AVals.step (s : Step F H F' H') : ∀ {l : List D} {ws : List V}, AVals K ct F H l ws → AVals K ct F' H' l ws
  | _, _, .nil => .nil
  | _, _, .cons h r => .cons (h.step s) (AVals.step s r)
theorem Val.any : ∀ {k : Kd}, Val K ct F H k d v → AVal K ct F H d v
  | .frz, h => .inl h
  | .bor, h => .inr h
  | .fr, h => .inr h
theorem AVal.rep (i : In F H) (h : AVal K ct F H d v) : Rep K ct H d v := by
  rcases h with h | ⟨p, e, n, o⟩
  · exact Rep.mono i h
  · obtain ⟨u, hu, nt, r⟩ := o.obj
    subst e
    exact r H i hu
theorem AVals.reps (i : In F H) : ∀ {l : List D} {ws : List V}, AVals K ct F H l ws → Reps K ct H l ws
  | _, _, .nil => .nil
  | _, _, .cons h r => .cons (h.rep i) (AVals.reps i r)
theorem Reps.any : ∀ {l : List D} {ws : List V}, Reps K ct F l ws → AVals K ct F H l ws
  | _, _, .nil => .nil
  | _, _, .cons h r => .cons (.inl h) (Reps.any r)
theorem Val.rep (i : In F H) {k : Kd} (h : Val K ct F H k d v) : Rep K ct H d v := h.any.rep i
theorem KRep.back (s : Step F H F1 H1) (h : KRep K ct F1 H1 F' H' k d v) : KRep K ct F H F' H' k d v := ⟨h.1, fun z p e => s.hp.nw (h.2 z p e)⟩
theorem KRep.fwd (s : Step F1 H1 F2 H2) (h : KRep K ct F H F1 H1 k d v) : KRep K ct F H F2 H2 k d v := ⟨h.1.step s, h.2⟩
/-- p's object frozen -/
theorem frz_one (s : Step F H F2 H2) (own : Own K ct F2 H2 p d) (hn : Nw H p) : ∃ F3, Step F H F3 H2 ∧ Ex F2 F3 ∧ Rep K ct F3 d (.ref p) := by
  obtain ⟨u, hu, nt, r⟩ := own.obj
  have e23 : Ex F2 (fun a => if a = p then H2 p else F2 a) := fun a w q => by
    show (if a = p then H2 p else F2 a) = some w
    by_cases z : a = p
    · rw [if_pos z]; subst z; exact s.in_ _ _ q
    · rw [if_neg z]; exact q
  refine ⟨fun a => if a = p then H2 p else F2 a, ⟨s.fz.trans e23, s.hp, ⟨fun a w q => ?_, fun a ps q => ?_, s.in_.tb⟩, fun a q => ?_⟩, e23, r _ e23 (by rw [if_pos rfl]; exact hu)⟩
  · have q : (if a = p then H2 p else F2 a) = some w := q
    by_cases z : a = p
    · rw [if_pos z] at q; subst z; exact q
    · rw [if_neg z] at q; exact s.in_ _ _ q
  · have q : (if a = p then H2 p else F2 a) = some (.tbl ps) := q
    by_cases z : a = p
    · rw [if_pos z, hu] at q; exact nt ps (Option.some.inj q)
    · rw [if_neg z] at q; exact s.in_.nt a ps q
  · have q : (if a = p then H2 p else F2 a) ≠ none := q
    by_cases z : a = p
    · subst z; exact .inr hn
    · rw [if_neg z] at q; exact s.new a q
/-- a value that no name owns: frozen -/
theorem KRep.fix (s : Step F H F2 H2) (h : KRep K ct F H F2 H2 k d v) (nb : k ≠ .bor) : ∃ F3, Step F H F3 H2 ∧ Ex F2 F3 ∧ Rep K ct F3 d v := by
  cases k with
  | frz => exact ⟨F2, s, Ex.refl _, h.1⟩
  | bor => exact (nb rfl).elim
  | fr =>
    obtain ⟨p, e, n, o⟩ := h.1
    have hp := h.2 rfl p e
    subst e
    exact frz_one s o hp
theorem KRep.fix2 {k' : Kd} {d' : D} {v' : V} (s : Step F H F2 H2) (h : KRep K ct F H F2 H2 k d v) (nb : k ≠ .bor) (h' : KRep K ct F H F2 H2 k' d' v') (nb' : k' ≠ .bor) :
    ∃ F3, Step F H F3 H2 ∧ Ex F2 F3 ∧ Rep K ct F3 d v ∧ Rep K ct F3 d' v' := by
  obtain ⟨F3, s3, e3, r⟩ := h.fix s nb
  cases k' with
  | frz => exact ⟨F3, s3, e3, r, Rep.mono e3 h'.1⟩
  | bor => exact (nb' rfl).elim
  | fr =>
    obtain ⟨p, e, n, o⟩ := h'.1
    have hp := h'.2 rfl p e
    subst e
    obtain ⟨F4, s4, e4, r4⟩ := frz_one s3 (o.mono e3 (Ez.refl s.in_.tb)) hp
    exact ⟨F4, s4, e3.trans e4, Rep.mono e4 r, r4⟩
theorem Post.step {Q : VK} {r : Res (D × Kd)} (s : Step F H F1 H1) (h : Post K ct F H Er Q r) : Post K ct F1 H1 Er Q r := by
  cases r with
  | ok x => exact fun F' H' v s' kr => h F' H' v (s.trans s') (kr.back s)
  | er x => exact fun H' cls dd e xr => h H' cls dd (s.hp.trans e) xr
  | bad => exact h
theorem PostA.step {Q : List V → Hp → Prop} {r : Res (D × Kd)} (s : Step F H F1 H1) (h : PostA K ct F H Er Q r) : PostA K ct F1 H1 Er Q r := by
  cases r with
  | ok x => exact fun F' H' v s' kr nb => h F' H' v (s.trans s') kr nb
  | er x => exact fun H' cls dd e xr => h H' cls dd (s.hp.trans e) xr
  | bad => exact h
/-- what a value is, frozen (its own object too) -/
theorem KRep.demote (s : Step F H F1 H1) (h : KRep K ct F H F1 H1 k d v) (nb : k ≠ .bor) : ∃ F2, Step F H F2 H1 ∧ Ex F1 F2 ∧ Rep K ct F2 d v := by
  cases k with
  | frz => exact ⟨F1, s, Ex.refl _, h.1⟩
  | bor => exact (nb rfl).elim
  | fr =>
    obtain ⟨p, e, n, o⟩ := h.1
    have hp := h.2 rfl p e
    obtain ⟨u, hu, nt, r⟩ := o.obj
    refine ⟨upd F1 p u, ⟨s.fz.trans (Ex.new n), s.hp, ⟨fun a w q => ?_, fun a ps q => ?_, s.in_.tb⟩, fun a q => ?_⟩, Ex.new n, ?_⟩
    · by_cases z : a = p
      · subst z; rw [upd_same] at q; cases q; exact hu
      · rw [upd_ne z] at q; exact s.in_ _ _ q
    · by_cases z : a = p
      · subst z; rw [upd_same] at q; exact nt ps (Option.some.inj q)
      · rw [upd_ne z] at q; exact s.in_.nt a ps q
    · by_cases z : a = p
      · subst z; exact .inr hp
      · rw [upd_ne z] at q; exact s.new a q
    · subst e
      exact r _ (Ex.new n) upd_same
theorem SOk.step (o : SOk K ct F H σ e) (s : Step F H F' H') : SOk K ct F' H' σ e where
  in_ := s.in_
  len := o.len
  fz := fun i d h => let ⟨v, a, b⟩ := o.fz i d h; ⟨v, a, Rep.mono s.fz b⟩
  ow := fun i d h => let ⟨p, a, b, c⟩ := o.ow i d h; ⟨p, a, s.keep b c.there, c.mono s.fz s.hp⟩
  ap := o.ap
theorem SOk.refl (o : SOk K ct F H σ e) : Step F H F H := Step.refl o.in_
/-- a new object laid, its items frozen: fresh -/
theorem KRep.fresh {F H : Hp} {p : Addr} {o : HO} {d : D} (i : In F H) (hn : H p = none) (h : Own K ct F (upd H p o) p d) : Step F H F (upd H p o) ∧ KRep K ct F H F (upd H p o) .fr d (.ref p) :=
  ⟨⟨Ex.refl _, .new i.tb hn, i.new hn, fun _ z => .inl z⟩, ⟨p, rfl, i.none hn, h⟩, fun _ q e => by cases e; exact .of hn⟩
theorem KRep.frz (h : Rep K ct F' d v) : KRep K ct F H F' H' .frz d v := ⟨h, fun z => nomatch z⟩
theorem Val.krep (nf : k ≠ .fr) (h : Val K ct F' H' k d v) : KRep K ct F H F' H' k d v := ⟨h, fun z => (nf z).elim⟩
end

/-! ### readings -/
section
variable (K : PySem.W.Frag) (ct : CT) (G : Gm) (cl : Nat → List D → Res (D × Kd)) (mk : Nat → List D → Res D) (E : L2.St → XK)
def rd (m : M) : TE := fun σ H Q => ∃ F e, SOk K ct F H σ e ∧ Post K ct F H (E σ) Q (evE G cl mk m e)
def rdA (m : M) : TA := fun σ H Q => ∃ F e, SOk K ct F H σ e ∧ PostA K ct F H (E σ) Q (evE G cl mk m e)
/-- a test: the truth of what it comes to -/
def PostT (F H : Hp) (Er : XK) (Q : Bool → Hp → Prop) : Res (D × Kd) → Prop
  | .ok x => match truth x.1 with
    | some b => ∀ F' H', Step F H F' H' → Q b H'
    | none => False
  | .er x => ∀ H' cls dd, Ez H H' → XRep K ct H' x cls dd → Er cls dd H'
  | .bad => False
def rdT (m : M) : TT := fun σ H Q => ∃ F e, SOk K ct F H σ e ∧ PostT K ct F H (E σ) Q (evE G cl mk m e)
end
section
variable {X : Cx} {e : Expr} {t t' : TE} {u u' : TA} {b b' : TT} {es : List Expr}
theorem PE.imp (h : PE X e t) (i : ∀ σ H Q, t' σ H Q → t σ H Q) : PE X e t' := ⟨fun pins s σ H Q I q => h.run pins s σ H Q I (i σ H Q q)⟩
theorem PA.imp (h : PA X es u) (i : ∀ σ H Q, u' σ H Q → u σ H Q) : PA X es u' := ⟨fun pos pins s σ H Q I q => h.run pos pins s σ H Q I (i σ H Q q)⟩
theorem PT.imp (h : PT X e b) (i : ∀ σ H Q, b' σ H Q → b σ H Q) : PT X e b' := ⟨fun pins s σ H Q I q => h.run pins s σ H Q I (i σ H Q q)⟩
theorem PW.imp (h : PW X e b) (i : ∀ σ H Q, b' σ H Q → b σ H Q) : PW X e b' := ⟨fun wh pins s σ H Q I q => h.run wh pins s σ H Q I (i σ H Q q)⟩
end
section
variable {K : PySem.W.Frag} {ct : CT} {G : Gm} {cl : Nat → List D → Res (D × Kd)} {mk : Nat → List D → Res D} {E : L2.St → XK} {F H : Hp} {σ : L2.St} {e : Env}
/-- one part, then what is done with it -/
theorem rd1 {m : M} {f : D × Kd → Res (D × Kd)} {Q : VK} {R : VK} (o : SOk K ct F H σ e) (h : Post K ct F H (E σ) Q ((evE G cl mk m e).bind f))
    (k : ∀ F1 H1 x v, Step F H F1 H1 → KRep K ct F H F1 H1 x.2 x.1 v → SOk K ct F1 H1 σ e → Post K ct F H (E σ) Q (f x) → R v H1) : rd K ct G cl mk E m σ H R := by
  refine ⟨F, e, o, ?_⟩
  cases q : evE G cl mk m e with
  | ok x =>
    rw [q] at h
    exact fun F1 H1 v s kr => k F1 H1 x v s kr (o.step s) h
  | er x =>
    rw [q] at h
    exact h
  | bad =>
    rw [q] at h
    exact h
/-- the same of an argument list -/
theorem rdA1 {m : M} {f : D × Kd → Res (D × Kd)} {Q : VK} {R : List V → Hp → Prop} (o : SOk K ct F H σ e) (h : Post K ct F H (E σ) Q ((evE G cl mk m e).bind f))
    (k : ∀ F1 H1 x vs, Step F H F1 H1 → AVals K ct F1 H1 (itemsOf x.1) vs → (x.2 ≠ .bor → Reps K ct F1 (itemsOf x.1) vs) → SOk K ct F1 H1 σ e → Post K ct F H (E σ) Q (f x) → R vs H1) : rdA K ct G cl mk E m σ H R := by
  refine ⟨F, e, o, ?_⟩
  cases q : evE G cl mk m e with
  | ok x =>
    rw [q] at h
    exact fun F1 H1 v s kr nb => k F1 H1 x v s kr nb (o.step s) h
  | er x =>
    rw [q] at h
    exact h
  | bad =>
    rw [q] at h
    exact h
/-- two parts -/
theorem rd2 {m n : M} {f : D × Kd → D × Kd → Res (D × Kd)} {Q : VK} {R : V → VK} (o : SOk K ct F H σ e) (h : Post K ct F H (E σ) Q ((evE G cl mk m e).bind fun x => (evE G cl mk n e).bind fun y => f x y))
    (k : ∀ F2 H2 x y v u, Step F H F2 H2 → KRep K ct F H F2 H2 x.2 x.1 v → KRep K ct F H F2 H2 y.2 y.1 u → SOk K ct F2 H2 σ e → Post K ct F H (E σ) Q (f x y) → R v u H2) :
    rd K ct G cl mk E m σ H fun v H1 => rd K ct G cl mk E n σ H1 fun u H2 => R v u H2 :=
  by
    refine ⟨F, e, o, ?_⟩
    cases q : evE G cl mk m e with
    | er x => rw [q] at h; exact h
    | bad => rw [q] at h; exact h
    | ok x =>
      rw [q] at h
      intro F1 H1 v s1 kr1
      have o1 := o.step s1
      refine ⟨F1, e, o1, ?_⟩
      cases q2 : evE G cl mk n e with
      | er y =>
        simp only [Res.bind, q2] at h
        exact fun H' cls dd e' xr => h H' cls dd (s1.hp.trans e') xr
      | bad =>
        simp only [Res.bind, q2] at h
        exact h.elim
      | ok y =>
        simp only [Res.bind, q2] at h
        intro F2 H2 u s2 kr2
        exact k F2 H2 x y v u (s1.trans s2) (kr1.fwd s2) (kr2.back s1) (o1.step s2) h
theorem post_ok {Er : XK} {Q : VK} {x : D} {k : Kd} {v : V} (i : In F H) (h : Post K ct F H Er Q (.ok (x, k))) (nf : k ≠ .fr) (r : Val K ct F H k x v) : Q v H := h F H v (Step.refl i) (r.krep nf)
theorem post_frz {Er : XK} {Q : VK} {x : D} {v : V} (i : In F H) (h : Post K ct F H Er Q (.ok (x, .frz))) (r : Rep K ct F x v) : Q v H := h F H v (Step.refl i) (KRep.frz r)
theorem post_new {Er : XK} {Q : VK} {x : D} {p : Addr} {o : HO} (i : In F H) (h : Post K ct F H Er Q (.ok (x, .fr))) (hn : H p = none) (r : Own K ct F (upd H p o) p x) : Q (.ref p) (upd H p o) :=
  let ⟨s, kr⟩ := KRep.fresh i hn r
  h F _ _ s kr
/-- a new tuple: frozen at once -/
theorem post_tup {Er : XK} {Q : VK} {l : List D} {ws : List V} {p : Addr} (i : In F H) (h : Post K ct F H Er Q (.ok (.tup l, .frz))) (hn : H p = none) (r : Reps K ct F l ws) : Q (.ref p) (upd H p (.tup ws)) :=
  h _ _ _ (Step.lay i hn) (KRep.frz (.tup (.of upd_same) (r.mono (Ex.new (i.none hn)))))
end
end Dv
end
section
set_option Elab.async false
set_option linter.all false
set_option maxRecDepth 100000
set_option maxHeartbeats 4000000
/-! The rules, one a construct: expressions. -/
namespace Dv
open PySem PySem.Spec PyProof.Rows L2
variable [Tt]

/-! ### syntax in general -/
def noStar : Expr → Bool
  | .Starred _ _ => false
  | _ => true
theorem star_cons {e : Expr} {es : List Expr} {env : PySem.Env} (h : noStar e = true) : starEach (e :: es) env = (false, eval e env) :: starEach es env := by
  cases e <;> first | rfl | cases h
theorem star_any {env : PySem.Env} {pos : Pos} : ∀ {es : List Expr}, es.all noStar = true → (backTo pos (starEach es env)).any (·.1) = false
  | [], _ => rfl
  | e :: es, h => by
    obtain ⟨a, b⟩ := Bool.and_eq_true_iff.mp (List.all_cons ▸ h)
    rw [star_cons a]
    exact star_any (es := es) b
def baseOk : Expr → Bool
  | .Call (.Name id _) [] [] _ => id != "super"
  | _ => true
theorem base_ok {o : Expr} {f : Str} {env : PySem.Env} (h : baseOk o = true) : attributeBase o f env (eval o env) = eval o env := by
  unfold attributeBase
  split
  · rename_i id _ _
    have h' : (id != ("super" : Str)) = true := h
    rw [h']
    rfl
  · rfl
def plainTest : Expr → Bool
  | .UnaryOp .Not _ _ => false
  | .BoolOp _ _ _ => false
  | .IfExp _ _ _ _ => false
  | .Compare _ _ _ _ => false
  | _ => true
theorem test_plain {e : Expr} {env : PySem.Env} (h : plainTest e = true) : ∀ whole, isTrue e env whole = (do let v ← whole; standAt e.pos; holding [v] (truthy v)) := by
  intro whole
  cases e <;> first | rfl | cases h | skip
  rename_i op _ _
  cases op <;> first | rfl | cases h
def noSlice : Expr → Bool
  | .Slice _ _ none _ => false
  | _ => true
theorem plain_ix {b : Expr} (h : noSlice b = true) : PlainIx b := by
  intro o i
  unfold subscripted
  split
  · cases h
  · rename_i h2; cases h2
  · rfl

/-! ### the context -/
/-- where defs and classes lie -/
structure Lk where
  fa : Nat → Addr
  ct : CT
section
variable (X : Cx) (L : Lk) (G : Gm) (cl : Nat → List D → Res (D × Kd)) (mk : Nat → List D → Res D) (E : L2.St → XK)
/-- own def f is called by values, here or one below -/
def CallS (f : Nat) : Prop := ∀ (A' : Around), (A' = X.A ∨ A' = X.A.in1) → ∀ (pins : List (Addr × Obj)) (s : Shared) (σ : L2.St) (F H : Hp) (vs : List V) (us : List Value) (ds : List D) (Q : VK), Inv X pins σ H s → Vals vs us → In F H → Reps X.K L.ct F ds vs →
  Post X.K L.ct F H (E σ) Q (cl f ds) → codeAny (model X.prog X.w) A' (.call (.ref (L.fa f)) ⟨us, []⟩) (fun r s' => match r with | .ok (.ret v) => EP X pins σ Q v s' | .ok _ => False | .error e => X.xe e s') s
/-- the same where nothing is raised -/
def CallN (f : Nat) : Prop := ∀ (A' : Around), (A' = X.A ∨ A' = X.A.in1) → ∀ (pins : List (Addr × Obj)) (s : Shared) (σ : L2.St) (F H : Hp) (vs : List V) (us : List Value) (ds : List D) (r : D × Kd) (Q : VK), Inv X pins σ H s → Vals vs us → In F H → Reps X.K L.ct F ds vs →
  cl f ds = .ok r → Post X.K L.ct F H (fun _ _ _ => False) Q (.ok r) → codeAny (model X.prog X.w) A' (.call (.ref (L.fa f)) ⟨us, []⟩) (fun r s' => match r with | .ok (.ret v) => EP X pins σ Q v s' | .ok _ => False | .error e => False) s
def MakeS (c : Nat) : Prop := ∀ (pins : List (Addr × Obj)) (s : Shared) (σ : L2.St) (F H : Hp) (vs : List V) (us : List Value) (ds : List D) (Q : VK), Inv X pins σ H s → Vals vs us → In F H → Reps X.K L.ct F ds vs →
  Post X.K L.ct F H (E σ) Q ((mk c ds).bind fun d => .ok (d, .frz)) → wpAny (model X.prog X.w) X.A (call (.ref (L.ct c)) us) (EP X pins σ Q) X.xe s
structure Good : Prop where
  calm : X.calm = true
  units : X.A.units + 64 < cLine
  call : ∀ f, CallS X L cl E f
  calln : ∀ f, CallN X L cl f
  make : ∀ c, MakeS X L mk E c
end
section
variable {X : Cx} {L : Lk} {G : Gm} {cl : Nat → List D → Res (D × Kd)} {mk : Nat → List D → Res D} {E : L2.St → XK}
theorem CallS.wp {f : Nat} (h : CallS X L cl E f) {pins : List (Addr × Obj)} {s : Shared} {σ : L2.St} {F H : Hp} {vs : List V} {us : List Value} {ds : List D} {Q : VK} (I : Inv X pins σ H s) (r : Vals vs us) (i : In F H) (rp : Reps X.K L.ct F ds vs)
    (p : Post X.K L.ct F H (E σ) Q (cl f ds)) : wpAny (model X.prog X.w) X.A (call (.ref (L.fa f)) us) (EP X pins σ Q) X.xe s := wpAny_call (h X.A (.inl rfl) pins s σ F H vs us ds Q I r i rp p)
theorem CallS.wp1 {f : Nat} (h : CallS X L cl E f) {pins : List (Addr × Obj)} {s : Shared} {σ : L2.St} {F H : Hp} {vs : List V} {us : List Value} {ds : List D} {Q : VK} (I : Inv X pins σ H s) (r : Vals vs us) (i : In F H) (rp : Reps X.K L.ct F ds vs)
    (p : Post X.K L.ct F H (E σ) Q (cl f ds)) : wpAny (model X.prog X.w) X.A.in1 (call (.ref (L.fa f)) us) (EP X pins σ Q) X.xe s := wpAny_call (h X.A.in1 (.inr rfl) pins s σ F H vs us ds Q I r i rp p)
/-! ### names, constants, displays, argument lists -/
theorem s_slot {i : Nat} {x : Str} {pos : Pos} (hN : X.N[i]? = some x) (hv : Vis X.env.scope x) (hd : (x == ("__debug__" : Str)) = false) (hcd : (x == ("__classdict__" : Str)) = false) : PE X (.Name x pos) (rd X.K L.ct G cl mk E (.slot i)) := by
  refine PE.imp (pe_var hN hv hd hcd) fun σ H Q h => ?_
  obtain ⟨F, e, o, h⟩ := h
  unfold evE at h
  cases q : getE e i with
  | none => rw [q] at h; exact h.elim
  | some x =>
    obtain ⟨d, b⟩ := x
    rw [q] at h
    cases b with
    | false =>
      obtain ⟨v, hv, r⟩ := o.fz i d q
      exact ⟨v, hv, post_frz o.in_ h r⟩
    | true =>
      obtain ⟨p, hv, n, r⟩ := o.ow i d q
      exact ⟨_, hv, post_ok o.in_ h (by decide) ⟨p, rfl, n, r⟩⟩
theorem s_cst {e : Expr} {d : D} {v : V} (h : PE X e (tC v)) (hr : ∀ F, Rep X.K L.ct F d v) : PE X e (rd X.K L.ct G cl mk E (.cst d)) := by
  refine PE.imp h fun σ H Q h => ?_
  obtain ⟨F, e, o, h⟩ := h
  exact post_frz o.in_ h (hr F)
theorem s_int {i : Int} {j pos} : PE X (.Constant (.int i) j pos) (rd X.K L.ct G cl mk E (.cst (.int i))) := s_cst pe_int fun _ => .int
theorem s_bl {i : Bool} {j pos} : PE X (.Constant (.bool i) j pos) (rd X.K L.ct G cl mk E (.cst (.bl i))) := s_cst pe_bl fun _ => .bl
theorem s_non {j pos} : PE X (.Constant .none j pos) (rd X.K L.ct G cl mk E (.cst .non)) := s_cst pe_non fun _ => .non
theorem s_str {i : Str} {j pos} : PE X (.Constant (.str i) j pos) (rd X.K L.ct G cl mk E (.cst (.str i))) := s_cst pe_str fun _ => .str
theorem s_nil : PA X [] (rdA X.K L.ct G cl mk E .nil) := by
  refine PA.imp pa_nil fun σ H Q h => ?_
  obtain ⟨F, e, o, h⟩ := h
  exact h F H [] (Step.refl o.in_) .nil fun _ => .nil
theorem s_cons {e : Expr} {es : List Expr} {m n : M} (h1 : noStar e = true) (he : PE X e (rd X.K L.ct G cl mk E m)) (hs : PA X es (rdA X.K L.ct G cl mk E n)) : PA X (e :: es) (rdA X.K L.ct G cl mk E (.cons m n)) := by
  refine PA.imp (pa_cons he hs (star_cons h1)) fun σ H Q h => ?_
  obtain ⟨F, e, o, h⟩ := h
  unfold evE at h
  refine ⟨F, e, o, ?_⟩
  cases q : evE G cl mk m e with
  | er x => rw [q] at h; exact h
  | bad => rw [q] at h; exact h
  | ok x =>
    obtain ⟨x, k⟩ := x
    rw [q] at h
    intro F1 H1 v s1 kr
    -- a fresh one is frozen at once
    have key : ∃ F2, Step F H F2 H1 ∧ AVal X.K L.ct F2 H1 x v ∧ (k ≠ .bor → Rep X.K L.ct F2 x v) := by
      by_cases hb : k = .bor
      · subst hb
        exact ⟨F1, s1, .inr kr.1, fun z => (z rfl).elim⟩
      · obtain ⟨F2, s2, _, r⟩ := kr.demote s1 hb
        exact ⟨F2, s2, .inl r, fun _ => r⟩
    obtain ⟨F2, s2, av, rv⟩ := key
    refine ⟨F2, e, o.step s2, ?_⟩
    have h := PostA.step s2 h
    cases q2 : evE G cl mk n e with
    | er y =>
      simp only [Res.bind, q2] at h
      exact h
    | bad =>
      simp only [Res.bind, q2] at h
      exact h.elim
    | ok y =>
      simp only [Res.bind, q2] at h
      intro F3 H3 vs s3 avs rvs
      refine h F3 H3 (v :: vs) s3 (.cons (av.step s3) avs) fun nb => ?_
      by_cases z : k = .bor ∨ y.2 = .bor
      · rw [if_pos z] at nb; exact (nb rfl).elim
      · have z1 : k ≠ .bor := fun t => z (.inl t)
        have z2 : y.2 ≠ .bor := fun t => z (.inr t)
        exact .cons (Rep.mono s3.fz (rv z1)) (rvs z2)
theorem small_items {F H : Hp} {l : List D} {ws : List V} (h : Reps X.K L.ct F l ws) : ws.length = l.length := h.length.symm
theorem s_tup {es : List Expr} {x1 : Nat} {pos : Pos} {m : M} (hl : es.length ≤ 1000) (hs : PA X es (rdA X.K L.ct G cl mk E m)) (hn : ∀ e r, evE G cl mk m e = .ok r → (itemsOf r.1).length ≤ 1000) : PE X (.Tuple es x1 pos) (rd X.K L.ct G cl mk E (.tup m)) := by
  refine PE.imp (pe_tup hs) fun σ H Q h => ?_
  obtain ⟨F, e, o, h⟩ := h
  unfold evE at h
  refine ⟨F, e, o, ?_⟩
  cases q : evE G cl mk m e with
  | er x => rw [q] at h; exact h
  | bad => rw [q] at h; exact h
  | ok x =>
    rw [q] at h
    intro F1 H1 vs s1 _ rvs
    have h := Post.step s1 h
    by_cases hb : x.2 = .bor
    · simp only [Res.bind, hb, if_true] at h; exact h.elim
    · simp only [Res.bind, hb, if_false] at h
      have r := rvs hb
      refine ⟨?_, fun p hp => post_tup s1.in_ h hp r⟩
      rw [← r.length]
      exact Nat.le_trans (hn e x q) (by decide)
theorem s_lst {es : List Expr} {pos : Pos} {m : M} (hs : PA X es (rdA X.K L.ct G cl mk E m)) (hn : ∀ e r, evE G cl mk m e = .ok r → (itemsOf r.1).length ≤ 1000) : PE X (.List es pos) (rd X.K L.ct G cl mk E (.lst m)) := by
  refine PE.imp (pe_lst hs) fun σ H Q h => ?_
  obtain ⟨F, e, o, h⟩ := h
  unfold evE at h
  refine ⟨F, e, o, ?_⟩
  cases q : evE G cl mk m e with
  | er x => rw [q] at h; exact h
  | bad => rw [q] at h; exact h
  | ok x =>
    rw [q] at h
    intro F1 H1 vs s1 _ rvs
    have h := Post.step s1 h
    by_cases hb : x.2 = .bor
    · simp only [Res.bind, hb, if_true] at h; exact h.elim
    · simp only [Res.bind, hb, if_false] at h
      have r := rvs hb
      refine ⟨?_, fun p hp => post_new s1.in_ h hp ⟨_, upd_same, r⟩⟩
      rw [← r.length]
      exact Nat.le_trans (hn e x q) (by decide)
end
end Dv
end
section
set_option Elab.async false
set_option linter.all false
set_option maxRecDepth 100000
set_option maxHeartbeats 4000000
/-! The rules: operators, comparisons, tests. -/
namespace Dv
open PySem PySem.Spec PyProof.Rows L2
variable [Tt]

abbrev R2S := L2.St → V → V → Hp → VK → Prop
def OpS (X : Cx) (f : Value → Value → Sem Value) (r : R2S) : Prop :=
  ∀ (pins : List (Addr × Obj)) (s : Shared) (σ : L2.St) (H : Hp) (x y : V) (v u : Value) (Q : VK), Inv X pins σ H s → RelV x v → RelV y u → r σ x y H Q →
    wpAny (model X.prog X.w) X.A (f v u) (EP X pins σ Q) X.xe s
theorem OpS.of {X : Cx} {f : Value → Value → Sem Value} {r : R2} (h : OpR X f r) : OpS X f (fun _ => r) := fun pins s σ H x y v u Q I a b q => h pins s σ H x y v u Q I a b q
theorem OpS.or {X : Cx} {f : Value → Value → Sem Value} {r r' : R2S} (h : OpS X f r) (h' : OpS X f r') : OpS X f (fun σ x y H Q => r σ x y H Q ∨ r' σ x y H Q) := fun pins s σ H x y v u Q I a b q =>
  q.elim (fun q => h pins s σ H x y v u Q I a b q) fun q => h' pins s σ H x y v u Q I a b q
theorem OpS.imp {X : Cx} {f : Value → Value → Sem Value} {r r' : R2S} (h : OpS X f r) (i : ∀ σ x y H Q, r' σ x y H Q → r σ x y H Q) : OpS X f r' := fun pins s σ H x y v u Q I a b q => h pins s σ H x y v u Q I a b (i σ x y H Q q)
section
variable {X : Cx} {a b : Expr} {ta tb : TE} {pos : Pos}
theorem pe_opS {op : Operator} {r : R2S} (ho : OpS X (binaryOp op) r) (ha : PE X a ta) (hb : PE X b tb) : PE X (.BinOp a op b pos) (fun σ H Q => ta σ H fun x H1 => tb σ H1 fun y H2 => r σ x y H2 Q) := by
  refine ⟨fun pins s σ H Q I h => ?_⟩
  exact wpAny_BinOp (binT ha hb I h fun v u s2 x y H2 I2 rx ry q => ho pins s2 σ H2 x y v u Q I2 rx ry q)
end
def pyOp : Bop → Operator
  | .add => .Add | .sub => .Sub | .mul => .Mult | .fdiv => .FloorDiv | .mod => .Mod
def pyCmp : Cop → CmpOp
  | .eq => .Eq | .ne => .NotEq | .lt => .Lt | .le => .LtE | .gt => .Gt | .ge => .GtE | .is => .Is | .isn => .IsNot | .mem => .In | .nmem => .NotIn
section
variable {X : Cx} {L : Lk} {G : Gm} {cl : Nat → List D → Res (D × Kd)} {mk : Nat → List D → Res D} {E : L2.St → XK}
section
variable {K : PySem.W.Frag} {ct : CT} {F H : Hp} {v : V}
theorem AVal.non (h : AVal K ct F H .non v) : v = .non := by
  rcases h with h | ⟨p, _, _, o⟩
  · cases h; rfl
  · exact o.elim
theorem AVal.bl {b : Bool} (h : AVal K ct F H (.bl b) v) : v = .bl b := by
  rcases h with h | ⟨p, _, _, o⟩
  · cases h; rfl
  · exact o.elim
theorem AVal.int {i : Int} (h : AVal K ct F H (.int i) v) : v = .int i := by
  rcases h with h | ⟨p, _, _, o⟩
  · cases h; rfl
  · exact o.elim
theorem AVal.str {i : Str} (h : AVal K ct F H (.str i) v) : v = .str i := by
  rcases h with h | ⟨p, _, _, o⟩
  · cases h; rfl
  · exact o.elim
theorem AVal.tup {l : List D} (h : AVal K ct F H (.tup l) v) : ∃ a ws, v = .ref a ∧ SqT K F a ws ∧ Reps K ct F l ws := by
  rcases h with h | ⟨p, _, _, o⟩
  · cases h with
    | tup h r => exact ⟨_, _, rfl, h, r⟩
  · exact o.elim
theorem AVal.lst {l : List D} (i : In F H) (h : AVal K ct F H (.lst l) v) : ∃ a ws, v = .ref a ∧ H a = some (.lst ws) ∧ Reps K ct F l ws := by
  rcases h with h | ⟨p, e, _, ws, h, r⟩
  · cases h with
    | lst h r => exact ⟨_, _, rfl, i _ _ h, r⟩
  · exact ⟨p, ws, e, h, r⟩
theorem AVal.dic {l : List (Key × D)} (i : In F H) (h : AVal K ct F H (.dic l) v) : ∃ a ws, v = .ref a ∧ H a = some (.dK ws) ∧ RepK K ct F l ws := by
  rcases h with h | ⟨p, e, _, ws, h, r⟩
  · cases h with
    | dic h r => exact ⟨_, _, rfl, i _ _ h, r⟩
  · exact ⟨p, ws, e, h, r⟩
theorem AVal.ins {c : Nat} {l : List (Str × D)} (i : In F H) (h : AVal K ct F H (.ins c l) v) : ∃ a dx ws, v = .ref a ∧ H a = some (.ins (ct c) dx ws) ∧ RepF K ct F l ws := by
  rcases h with h | ⟨p, e, _, dx, ws, h, r⟩
  · cases h with
    | ins h r => exact ⟨_, _, _, rfl, i _ _ h, r⟩
  · exact ⟨p, dx, ws, e, h, r⟩
theorem AVal.scr {l : List Int} (h : AVal K ct F H (.scr l) v) : ∃ a, v = .ref a ∧ SqL K F a (l.map V.int) := by
  rcases h with h | ⟨p, _, _, o⟩
  · cases h with
    | scr h => exact ⟨_, rfl, h⟩
  · exact o.elim
end
/-- the two operands as they are known when the operation is done -/
def At2 (K : PySem.W.Frag) (ct : CT) (F H F2 H2 : Hp) (x y : D × Kd) (v u : V) : Prop := Step F H F2 H2 ∧ KRep K ct F H F2 H2 x.2 x.1 v ∧ KRep K ct F H F2 H2 y.2 y.1 u
/-- an own class's operator -/
def OwnB (X : Cx) (L : Lk) (G : Gm) (cl : Nat → List D → Res (D × Kd)) (E : L2.St → XK) (o : Bop) : Prop :=
  ∀ (pins : List (Addr × Obj)) (s : Shared) (σ : L2.St) (F H : Hp) (x y : D) (v u : V) (vv uu : Value) (Q : VK), Inv X pins σ H s → RelV v vv → RelV u uu → In F H → Rep X.K L.ct F x v → Rep X.K L.ct F y u →
    ((isIns x).isSome = true ∨ (isIns y).isSome = true) → Post X.K L.ct F H (E σ) Q (binM G cl o true x y) → wpAny (model X.prog X.w) X.A (binaryOp (pyOp o) vv uu) (EP X pins σ Q) X.xe s
theorem post_int {K : PySem.W.Frag} {ct : CT} {F H F2 H2 : Hp} {Er : XK} {Q : VK} {x : D} {v : V} (s : Step F H F2 H2) (h : Post K ct F H Er Q (ofO (some (x, Kd.frz)))) (r : ∀ F', Rep K ct F' x v) : Q v H2 := h F2 H2 v s (KRep.frz (r F2))
theorem ins_none {x : D} (h : isIns x = none) : ∀ c l, x ≠ .ins c l := fun c l z => by subst z; cases h
/-- the operators of built-in data -/
theorem opB (o : Bop) : OpS X (binaryOp (pyOp o)) (fun σ v u H2 Q => ∃ F H F2 x y, At2 X.K L.ct F H F2 H2 x y v u ∧ Post X.K L.ct F H (E σ) Q (ofO (binD o x.1 y.1))) := by
  rintro pins s σ H2 v u vv uu Q I rv ru ⟨F, H, F2, ⟨x, kx⟩, ⟨y, ky⟩, ⟨st, kv, ku⟩, h⟩
  have av := kv.1.any
  have au := ku.1.any
  dsimp only at av au h
  unfold binD at h
  split at h
  · obtain rfl := av.int
    obtain rfl := au.int
    exact op_add pins s σ H2 _ _ vv uu Q I rv ru ⟨_, _, rfl, rfl, post_int st h fun _ => .int⟩
  · obtain rfl := av.str
    obtain rfl := au.str
    split at h
    · rename_i hz
      exact op_add_str pins s σ H2 _ _ vv uu Q I rv ru ⟨_, _, rfl, rfl, hz, post_int st h fun _ => .str⟩
    · exact h.elim
  · obtain ⟨a, ws, rfl, ha, ra⟩ := av.lst st.in_
    obtain ⟨b, zs, rfl, hb, rb⟩ := au.lst st.in_
    split at h
    · rename_i hz
      refine op_cat pins s σ H2 _ _ vv uu Q I rv ru ⟨a, b, ws, zs, rfl, rfl, ha, hb, by rw [← ra.length, ← rb.length]; exact hz, fun p hp => ?_⟩
      exact post_new st.in_ (Post.step st h) hp ⟨_, upd_same, ra.append rb⟩
    · exact h.elim
  · obtain ⟨a, ws, rfl, ha, ra⟩ := av.tup
    obtain ⟨b, zs, rfl, hb, rb⟩ := au.tup
    split at h
    · rename_i l l' hz
      have e0 : ws ≠ [] := fun z => by
        subst z
        have := ra.length
        exact hz.1 (List.eq_nil_of_length_eq_zero this)
      refine op_catA pins s σ H2 _ _ vv uu Q I rv ru ⟨a, b, ws, zs, rfl, rfl, st.in_.st ha, st.in_.st hb, by rw [← ra.length, ← rb.length]; exact hz.2, fun z => (e0 z).elim, fun _ z => ?_, fun _ _ p hp => ?_⟩
      · subst z
        have e1 : l' = [] := List.eq_nil_of_length_eq_zero rb.length
        subst e1
        refine post_frz st.in_ (Post.step st h) ?_
        rw [List.append_nil]
        exact .tup ha ra
      · exact post_tup st.in_ (Post.step st h) hp (ra.append rb)
    · exact h.elim
  · obtain rfl := av.int
    obtain rfl := au.int
    exact op_sub pins s σ H2 _ _ vv uu Q I rv ru ⟨_, _, rfl, rfl, post_int st h fun _ => .int⟩
  · obtain rfl := av.int
    obtain rfl := au.int
    split at h
    · rename_i hz
      exact op_mulW pins s σ H2 _ _ vv uu Q I rv ru ⟨_, _, rfl, rfl, hz, post_int st h fun _ => .int⟩
    · exact h.elim
  · obtain rfl := av.int
    obtain rfl := au.int
    split at h
    · rename_i hz
      exact op_fdivW pins s σ H2 _ _ vv uu Q I rv ru ⟨_, _, rfl, rfl, hz, post_int st h fun _ => .int⟩
    · exact h.elim
  · obtain rfl := av.int
    obtain rfl := au.int
    split at h
    · rename_i hz
      exact op_mod pins s σ H2 _ _ vv uu Q I rv ru ⟨_, _, rfl, rfl, hz, post_int st h fun _ => .int⟩
    · exact h.elim
  · exact h.elim
theorem s_bin {o : Bop} {a b : Expr} {m n : M} {pos : Pos} (ow : OwnB X L G cl E o) (ha : PE X a (rd X.K L.ct G cl mk E m)) (hb : PE X b (rd X.K L.ct G cl mk E n)) : PE X (.BinOp a (pyOp o) b pos) (rd X.K L.ct G cl mk E (.bin o m n)) := by
  have hop : OpS X (binaryOp (pyOp o)) (fun σ v u H2 Q => ∃ F H F2 x y, At2 X.K L.ct F H F2 H2 x y v u ∧ Post X.K L.ct F H (E σ) Q (binM G cl o (nbor x.2 y.2) x.1 y.1)) := by
    rintro pins s σ H2 v u vv uu Q I rv ru ⟨F, H, F2, ⟨x, kx⟩, ⟨y, ky⟩, ⟨st, kv, ku⟩, h⟩
    dsimp only at h kv ku
    by_cases hi : (isIns x).isSome = true ∨ (isIns y).isSome = true
    · have hn : nbor kx ky = true := by
        cases q : nbor kx ky with
        | true => rfl
        | false =>
          rw [q] at h
          unfold binM at h
          split at h
          · exact h.elim
          · split at h
            · exact h.elim
            · rename_i h1 _ h2
              rw [h1, h2] at hi
              exact (hi.elim (fun z => nomatch z) fun z => nomatch z)
      rw [hn] at h
      have n1 : kx ≠ .bor := fun z => by subst z; cases hn
      have n2 : ky ≠ .bor := fun z => by subst z; cases kx <;> cases hn
      obtain ⟨F3, s3, e3, r1, r2⟩ := kv.fix2 st n1 ku n2
      exact ow pins s σ F3 H2 x y v u vv uu Q I rv ru s3.in_ r1 r2 hi (Post.step s3 h)
    · have h1 : isIns x = none := by
        cases q : isIns x with
        | none => rfl
        | some c => exact (hi (.inl (by rw [q]; rfl))).elim
      have h2 : isIns y = none := by
        cases q : isIns y with
        | none => rfl
        | some c => exact (hi (.inr (by rw [q]; rfl))).elim
      refine opB (X := X) (L := L) (E := E) o pins s σ H2 v u vv uu Q I rv ru ⟨F, H, F2, (x, kx), (y, ky), ⟨st, kv, ku⟩, ?_⟩
      unfold binM at h
      rw [h1, h2] at h
      exact h
  refine PE.imp (pe_opS hop ha hb) fun σ H Q h => ?_
  obtain ⟨F, e, o', h⟩ := h
  unfold evE at h
  exact rd2 o' h fun F2 H2 x y v u st kx ky _ h => ⟨F, H, F2, x, y, ⟨st, kx, ky⟩, h⟩
end
end Dv
end
section
set_option Elab.async false
set_option linter.all false
set_option maxRecDepth 100000
set_option maxHeartbeats 4000000
namespace Dv
open PySem PySem.Spec PyProof.Rows L2
variable [Tt]

section
variable {K : PySem.W.Frag} {ct : CT} {H : Hp}
theorem dpInts : ∀ (l : List Int), DpAll K H (l.map V.int) (l.map PyData.int)
  | [] => .nil
  | i :: l => .cons (.int i) (dpInts l)
mutual
theorem toP_dp : ∀ {x : D} {v : V} {p : PyData}, toP x = some p → Rep K ct H x v → Dp K H v p
  | .non, _, _, e, .non => by cases e; exact .non
  | .bl b, _, _, e, .bl => by cases e; exact .bl b
  | .int i, _, _, e, .int => by cases e; exact .int i
  | .str x, _, _, e, .str => by cases e; exact .str x
  | .tup l, _, _, e, .tup h r => by
    unfold toP at e
    cases q : toPs l with
    | none => rw [q] at e; cases e
    | some ps => rw [q] at e; cases e; exact .tup h (toPs_dp q r)
  | .lst l, _, _, e, .lst h r => by
    unfold toP at e
    cases q : toPs l with
    | none => rw [q] at e; cases e
    | some ps => rw [q] at e; cases e; exact .lst (.of h) (toPs_dp q r)
  | .dic _, _, _, e, _ => by cases e
  | .dit _, _, _, e, _ => by cases e
  | .ins _ _, _, _, e, _ => by cases e
  | .scr l, _, _, e, .scr h => by cases e; exact .lst h (dpInts l)
theorem toPs_dp : ∀ {l : List D} {ws : List V} {ps : List PyData}, toPs l = some ps → Reps K ct H l ws → DpAll K H ws ps
  | [], _, _, e, .nil => by cases e; exact .nil
  | d :: l, _, _, e, .cons h r => by
    unfold toPs at e
    cases q : toP d with
    | none => rw [q] at e; cases e
    | some p =>
      rw [q] at e
      cases q2 : toPs l with
      | none => rw [q2] at e; cases e
      | some ps => rw [q2] at e; cases e; exact .cons (toP_dp q h) (toPs_dp q2 r)
end
theorem flat_v {x : D} {v w : V} (e : flatToV x = some w) (h : Rep K ct H x v) : v = w ∧ flatV v = true := by
  cases x <;> first | (cases e; cases h; exact ⟨rfl, rfl⟩) | cases e
theorem flats_v : ∀ {l : List D} {ws us : List V}, l.mapM flatToV = some us → Reps K ct H l ws → ws = us ∧ ws.all flatV = true
  | [], _, _, e, .nil => by cases e; exact ⟨rfl, rfl⟩
  | d :: l, _, _, e, .cons h r => by
    rw [List.mapM_cons] at e
    cases q : flatToV d with
    | none => rw [q] at e; cases e
    | some w =>
      rw [q] at e
      cases q2 : l.mapM flatToV with
      | none => rw [q2] at e; cases e
      | some us' =>
        rw [q2] at e
        cases e
        obtain ⟨e1, f1⟩ := flat_v q h
        obtain ⟨e2, f2⟩ := flats_v q2 r
        subst e1 e2
        exact ⟨rfl, by rw [List.all_cons, f1, f2]; rfl⟩
theorem valK_rep : ∀ {l : List (Key × D)} {ws : List (Key × V)} {k : Key}, RepK K ct H l ws → (∀ d, valK l k = some d → ∃ v, valV ws k = some v ∧ Rep K ct H d v) ∧ (valK l k = none → valV ws k = none)
  | _, _, k, .nil => ⟨fun d e => (by cases e), fun _ => rfl⟩
  | _, _, k, .cons (k := j) h r => by
    obtain ⟨a, b⟩ := valK_rep (k := k) r
    unfold valK
    by_cases q : j = k
    · subst q
      refine ⟨fun d e => ?_, fun e => ?_⟩
      · rw [if_pos rfl] at e; cases e
        exact ⟨_, by simp [valV], h⟩
      · rw [if_pos rfl] at e; cases e
    · refine ⟨fun d e => ?_, fun e => ?_⟩
      · rw [if_neg q] at e
        obtain ⟨v, e1, r1⟩ := a d e
        exact ⟨v, by simpa [valV, q] using e1, r1⟩
      · rw [if_neg q] at e
        simpa [valV, q] using b e
theorem key_v {x : D} {v : V} {k : Key} (e : keyD x = some k) (h : Rep K ct H x v) : v = kV k := by
  cases x <;> first | (cases e; cases h; rfl) | cases e
end
section
variable {X : Cx} {L : Lk} {G : Gm} {cl : Nat → List D → Res (D × Kd)} {mk : Nat → List D → Res D} {E : L2.St → XK}
theorem opEq {neg : Bool} (hu : X.A.units + 64 < cLine) {F2 H2 : Hp} {x y : D} {b : Bool} {v u : V} {vv uu : Value} {pins : List (Addr × Obj)} {s : Shared} {σ : L2.St} {Q : VK} (I : Inv X pins σ H2 s) (rv : RelV v vv) (ru : RelV u uu)
    (i : In F2 H2) (av : AVal X.K L.ct F2 H2 x v) (au : AVal X.K L.ct F2 H2 y u) (e : eqD x y = some b) (q : Q (.bl (if neg then !b else b)) H2) : wpAny (model X.prog X.w) X.A (compareOp (if neg then .NotEq else .Eq) vv uu) (EP X pins σ Q) X.xe s := by
  unfold eqD at e
  cases q1 : toP x with
  | none => rw [q1] at e; cases e
  | some p =>
    cases q2 : toP y with
    | none => rw [q1, q2] at e; cases e
    | some p' =>
      rw [q1, q2] at e
      dsimp only at e
      split at e
      · rename_i hs
        cases e
        obtain ⟨s1, s2⟩ := Bool.and_eq_true_iff.mp hs
        have d1 := toP_dp q1 (av.rep i)
        have d2 := toP_dp q2 (au.rep i)
        cases neg with
        | false => exact op_eqD hu pins s σ H2 v u vv uu Q I rv ru ⟨p, p', d1, d2, s1, s2, q⟩
        | true => exact op_neD hu pins s σ H2 v u vv uu Q I rv ru ⟨p, p', d1, d2, s1, s2, q⟩
      · cases e
theorem opIn {neg : Bool} {F2 H2 : Hp} {x : D} {l : List D} {ws : List V} {a : Addr} {b : Bool} {v : V} {vv uu : Value} {pins : List (Addr × Obj)} {s : Shared} {σ : L2.St} {Q : VK} (I : Inv X pins σ H2 s) (rv : RelV v vv) (ru : RelV (.ref a) uu)
    (i : In F2 H2) (av : AVal X.K L.ct F2 H2 x v) (hs : SqL X.K H2 a ws ∨ SqT X.K H2 a ws) (r : Reps X.K L.ct F2 l ws) (e : inD x l = some b) (q : Q (.bl (if neg then !b else b)) H2) : wpAny (model X.prog X.w) X.A (compareOp (if neg then .NotIn else .In) vv uu) (EP X pins σ Q) X.xe s := by
  unfold inD at e
  cases q1 : flatToV x with
  | none => rw [q1] at e; cases e
  | some w =>
    cases q2 : l.mapM flatToV with
    | none => rw [q1, q2] at e; cases e
    | some us =>
      rw [q1, q2] at e
      cases e
      obtain ⟨e1, f1⟩ := flat_v q1 (av.rep i)
      obtain ⟨e2, f2⟩ := flats_v q2 r
      subst e1 e2
      cases neg with
      | false => exact op_in_seq pins s σ H2 v (.ref a) vv uu Q I rv ru ⟨a, ws, rfl, hs, f1, f2, q⟩
      | true => exact op_notIn_seq pins s σ H2 v (.ref a) vv uu Q I rv ru ⟨a, ws, rfl, hs, f1, f2, q⟩
theorem opDin {neg : Bool} (hu : X.A.units + 64 < cLine) {F2 H2 : Hp} {x : D} {l : List (Key × D)} {ws : List (Key × V)} {k : Key} {a : Addr} {v : V} {vv uu : Value} {pins : List (Addr × Obj)} {s : Shared} {σ : L2.St} {Q : VK} (I : Inv X pins σ H2 s) (rv : RelV v vv) (ru : RelV (.ref a) uu)
    (i : In F2 H2) (av : AVal X.K L.ct F2 H2 x v) (hs : H2 a = some (.dK ws)) (r : RepK X.K L.ct F2 l ws) (e : keyD x = some k) (q : Q (.bl (if neg then (valK l k).isNone else (valK l k).isSome)) H2) : wpAny (model X.prog X.w) X.A (compareOp (if neg then .NotIn else .In) vv uu) (EP X pins σ Q) X.xe s := by
  have ev := key_v e (av.rep i)
  subst ev
  obtain ⟨h1, h2⟩ := valK_rep (k := k) r
  cases ru
  have es : (valV ws k).isSome = (valK l k).isSome := by
    cases q : valK l k with
    | none => rw [h2 q]; rfl
    | some d => obtain ⟨v, e1, _⟩ := h1 d q; rw [e1]; rfl
  cases neg with
  | false => exact d_in (by omega) I (DGet.k hs) rv fun s' I' => ⟨.bl _, H2, I', rfl, by rw [es]; exact q⟩
  | true => exact d_notIn (by omega) I (DGet.k hs) rv fun s' I' => ⟨.bl _, H2, I', rfl, by
      rw [es]
      cases z : valK l k with
      | none => rw [z] at q; exact q
      | some d => rw [z] at q; exact q⟩
theorem opC (hu : X.A.units + 64 < cLine) (o : Cop) {F2 H2 : Hp} {x y : D} {b : Bool} {v u : V} {vv uu : Value} {pins : List (Addr × Obj)} {s : Shared} {σ : L2.St} {Q : VK} (I : Inv X pins σ H2 s) (rv : RelV v vv) (ru : RelV u uu)
    (i : In F2 H2) (av : AVal X.K L.ct F2 H2 x v) (au : AVal X.K L.ct F2 H2 y u) (e : cmpD o x y = some b) (q : Q (.bl b) H2) : wpAny (model X.prog X.w) X.A (compareOp (pyCmp o) vv uu) (EP X pins σ Q) X.xe s := by
  unfold cmpD at e
  split at e
  · exact opEq (neg := false) hu I rv ru i av au e q
  · cases q1 : eqD x y with
    | none => rw [q1] at e; cases e
    | some c => rw [q1] at e; cases e; exact opEq (neg := true) hu I rv ru i av au q1 q
  · cases e; obtain rfl := av.int; obtain rfl := au.int
    exact op_lt pins s σ H2 _ _ vv uu Q I rv ru ⟨_, _, rfl, rfl, q⟩
  · cases e; obtain rfl := av.int; obtain rfl := au.int
    exact op_le pins s σ H2 _ _ vv uu Q I rv ru ⟨_, _, rfl, rfl, q⟩
  · cases e; obtain rfl := av.int; obtain rfl := au.int
    exact op_gt pins s σ H2 _ _ vv uu Q I rv ru ⟨_, _, rfl, rfl, q⟩
  · cases e; obtain rfl := av.int; obtain rfl := au.int
    exact op_ge pins s σ H2 _ _ vv uu Q I rv ru ⟨_, _, rfl, rfl, q⟩
  · obtain rfl := au.non
    refine op_isN pins s σ H2 _ _ vv uu Q I rv ru ⟨rfl, ?_⟩
    have eb : b = decide (v = .non) := by
      have r := av.rep i
      cases r <;> (cases e; first | rfl | (exact (decide_eq_false (fun z => nomatch z)).symm))
    rw [← eb]; exact q
  · obtain rfl := au.non
    refine op_notN pins s σ H2 _ _ vv uu Q I rv ru ⟨rfl, ?_⟩
    have eb : b = !decide (v = .non) := by
      have r := av.rep i
      cases r <;> (cases e; first | rfl | (rw [decide_eq_false (fun z => nomatch z)]; rfl))
    rw [← eb]; exact q
  · obtain ⟨a, ws, rfl, ha, ra⟩ := au.lst i
    exact opIn (neg := false) I rv ru i av (.inl (.of ha)) ra e q
  · obtain ⟨a, ws, rfl, ha, ra⟩ := au.tup
    exact opIn (neg := false) I rv ru i av (.inr (i.st ha)) ra e q
  · obtain ⟨a, ws, rfl, ha, ra⟩ := au.lst i
    cases q1 : inD x _ with
    | none => rw [q1] at e; cases e
    | some c => rw [q1] at e; cases e; exact opIn (neg := true) I rv ru i av (.inl (.of ha)) ra q1 q
  · obtain ⟨a, ws, rfl, ha, ra⟩ := au.tup
    cases q1 : inD x _ with
    | none => rw [q1] at e; cases e
    | some c => rw [q1] at e; cases e; exact opIn (neg := true) I rv ru i av (.inr (i.st ha)) ra q1 q
  · obtain ⟨a, ws, rfl, ha, ra⟩ := au.dic i
    cases q1 : keyD x with
    | none => rw [q1] at e; cases e
    | some k => rw [q1] at e; cases e; exact opDin (neg := false) hu I rv ru i av ha ra q1 q
  · obtain ⟨a, ws, rfl, ha, ra⟩ := au.dic i
    cases q1 : keyD x with
    | none => rw [q1] at e; cases e
    | some k => rw [q1] at e; cases e; exact opDin (neg := true) hu I rv ru i av ha ra q1 q
  · cases e
end
end Dv
end
section
set_option Elab.async false
set_option linter.all false
set_option maxRecDepth 100000
set_option maxHeartbeats 4000000
namespace Dv
open PySem PySem.Spec PyProof.Rows L2
variable [Tt]
section
variable {X : Cx} {L : Lk} {G : Gm} {cl : Nat → List D → Res (D × Kd)} {mk : Nat → List D → Res D} {E : L2.St → XK}
/-- own classes' comparisons -/
def OwnC (X : Cx) (L : Lk) (G : Gm) (cl : Nat → List D → Res (D × Kd)) (E : L2.St → XK) (o : Cop) : Prop :=
  ∀ (pins : List (Addr × Obj)) (s : Shared) (σ : L2.St) (F H : Hp) (x y : D) (v u : V) (vv uu : Value) (Q : VK), Inv X pins σ H s → RelV v vv → RelV u uu → In F H → Rep X.K L.ct F x v → Rep X.K L.ct F y u →
    ((isIns x).isSome = true ∨ (isIns y).isSome = true) → Post X.K L.ct F H (E σ) Q ((cmpM G cl o true x y).bind fun b => .ok (.bl b, .frz)) → wpAny (model X.prog X.w) X.A (compareOp (pyCmp o) vv uu) (EP X pins σ Q) X.xe s
theorem cmp_run (hu : X.A.units + 64 < cLine) {o : Cop} (ow : OwnC X L G cl E o) {F H F2 H2 : Hp} {x y : D × Kd} {v u : V} {vv uu : Value} {pins : List (Addr × Obj)} {s : Shared} {σ : L2.St} {Q : VK} (I : Inv X pins σ H2 s) (rv : RelV v vv) (ru : RelV u uu)
    (t : At2 X.K L.ct F H F2 H2 x y v u) (h : ∀ F3, Step F H F3 H2 → Post X.K L.ct F3 H2 (E σ) Q ((cmpM G cl o (nbor x.2 y.2) x.1 y.1).bind fun b => .ok (.bl b, .frz))) : wpAny (model X.prog X.w) X.A (compareOp (pyCmp o) vv uu) (EP X pins σ Q) X.xe s := by
  obtain ⟨x, kx⟩ := x
  obtain ⟨y, ky⟩ := y
  obtain ⟨st, kv, ku⟩ := t
  dsimp only at h kv ku
  by_cases hi : (isIns x).isSome = true ∨ (isIns y).isSome = true
  · have h0 := h F2 st
    have hn : nbor kx ky = true := by
      cases q : nbor kx ky with
      | true => rfl
      | false =>
        rw [q] at h0
        unfold cmpM at h0
        split at h0
        · exact h0.elim
        · exact h0.elim
        · exact h0.elim
        · rename_i h1 h2
          rw [h1, h2] at hi
          exact (hi.elim (fun z => nomatch z) fun z => nomatch z)
        · exact h0.elim
    rw [hn] at h
    have n1 : kx ≠ .bor := fun z => by subst z; cases hn
    have n2 : ky ≠ .bor := fun z => by subst z; cases kx <;> cases hn
    obtain ⟨F3, s3, e3, r1, r2⟩ := kv.fix2 st n1 ku n2
    exact ow pins s σ F3 H2 x y v u vv uu Q I rv ru s3.in_ r1 r2 hi (h F3 s3)
  · have h1 : isIns x = none := by
      cases q : isIns x with
      | none => rfl
      | some c => exact (hi (.inl (by rw [q]; rfl))).elim
    have h2 : isIns y = none := by
      cases q : isIns y with
      | none => rfl
      | some c => exact (hi (.inr (by rw [q]; rfl))).elim
    have e : cmpM G cl o (nbor kx ky) x y = ofO (cmpD o x y) := by
      unfold cmpM
      rw [h1, h2]
      cases o <;> rfl
    have h := h F2 st
    rw [e] at h
    cases q : cmpD o x y with
    | none => rw [q] at h; exact h.elim
    | some b =>
      rw [q] at h
      exact opC hu o I rv ru st.in_ kv.1.any ku.1.any q (h F2 H2 _ (Step.refl st.in_) (KRep.frz .bl))
theorem notSet {op : CmpOp} {b : Expr} (h : (match b with | .Set _ _ _ => false | _ => true) = true) : behindInMarks op b = false := by
  cases b <;> first | rfl | cases h
def noSet (b : Expr) : Bool := match b with | .Set _ _ _ => false | _ => true
theorem s_cmp (g : Good X L cl mk E) {o : Cop} {a b : Expr} {m n : M} {pos : Pos} (hb' : noSet b = true) (ow : OwnC X L G cl E o) (ha : PE X a (rd X.K L.ct G cl mk E m)) (hb : PE X b (rd X.K L.ct G cl mk E n)) : PE X (.Compare a [pyCmp o] [b] pos) (rd X.K L.ct G cl mk E (.cmp o m n)) := by
  refine ⟨fun pins s σ H Q I h => ?_⟩
  obtain ⟨F, e, o', h⟩ := h
  unfold evE at h
  exact wpAny_Compare1 (binT ha hb I (rd2 (R := fun v u H2 => ∃ F H F2 x y, At2 X.K L.ct F H F2 H2 x y v u ∧ Post X.K L.ct F H (E σ) Q ((cmpM G cl o (nbor x.2 y.2) x.1 y.1).bind fun b => .ok (.bl b, .frz))) o' h fun F2 H2 x y v u st kx ky _ h => ⟨F, H, F2, x, y, ⟨st, kx, ky⟩, h⟩)
    fun vv uu s2 v u H2 I2 rv ru ⟨F, H, F2, x, y, t, h⟩ => cmp_run g.units ow I2 rv ru t fun F3 s3 => Post.step s3 h) (notSet hb')
theorem postT_of {K : PySem.W.Frag} {ct : CT} {F H : Hp} {Er : XK} {Q : Bool → Hp → Prop} {r : Res Bool} (h : PostT K ct F H Er Q (r.bind fun b => .ok (.bl b, .frz))) : Post K ct F H Er (fun v H' => ∃ k, v = .bl k ∧ Q k H') (r.bind fun b => .ok (.bl b, .frz)) := by
  cases r with
  | ok b =>
    intro F' H' v st kr
    have := kr.1.any.bl
    subst this
    exact ⟨b, rfl, h F' H' st⟩
  | er x => exact h
  | bad => exact h
theorem s_cmpT (g : Good X L cl mk E) {o : Cop} {a b : Expr} {m n : M} {pos : Pos} (hb' : noSet b = true) (ow : OwnC X L G cl E o) (ha : PE X a (rd X.K L.ct G cl mk E m)) (hb : PE X b (rd X.K L.ct G cl mk E n)) : PT X (.Compare a [pyCmp o] [b] pos) (rdT X.K L.ct G cl mk E (.cmp o m n)) := by
  refine ⟨fun pins s σ H Q I h => ?_⟩
  obtain ⟨F, e, o', h⟩ := h
  unfold evE at h
  have h2 : Post X.K L.ct F H (E σ) (fun v H' => ∃ k, v = .bl k ∧ Q k H') ((evE G cl mk m e).bind fun x => (evE G cl mk n e).bind fun y => (cmpM G cl o (nbor x.2 y.2) x.1 y.1).bind fun b => .ok (.bl b, .frz)) := by
    cases q : evE G cl mk m e with
    | er x => rw [q] at h; exact h
    | bad => rw [q] at h; exact h
    | ok x =>
      rw [q] at h
      simp only [Res.bind] at h ⊢
      cases q2 : evE G cl mk n e with
      | er x => rw [q2] at h; exact h
      | bad => rw [q2] at h; exact h
      | ok y =>
        rw [q2] at h
        exact postT_of h
  refine wpAny_isTrue_Compare1 (binT ha hb I (rd2 (R := fun v u H2 => ∃ F H F2 x y, At2 X.K L.ct F H F2 H2 x y v u ∧ Post X.K L.ct F H (E σ) (fun v H' => ∃ k, v = .bl k ∧ Q k H') ((cmpM G cl o (nbor x.2 y.2) x.1 y.1).bind fun b => .ok (.bl b, .frz))) o' h2 fun F2 H2 x y v u st kx ky _ h => ⟨F, H, F2, x, y, ⟨st, kx, ky⟩, h⟩)
    fun vv uu s2 v u H2 I2 rv ru ⟨F, H, F2, x, y, t, h⟩ => thn (cmp_run g.units ow I2 rv ru t fun F3 s3 => Post.step s3 h) fun c s3 ⟨z, H3, I3, r3, k, ek, q3⟩ => ?_) (notSet hb')
  subst ek
  cases r3
  exact wpAny_truthy_bool ⟨H3, I3, q3⟩
theorem postT_ok {K : PySem.W.Frag} {ct : CT} {F H : Hp} {Er : XK} {Q : Bool → Hp → Prop} {x : D × Kd} : PostT K ct F H Er Q (.ok x) = (match truth x.1 with
    | some b => ∀ F' H', Step F H F' H' → Q b H'
    | none => False) := rfl
/-! ### truth -/
theorem tru_av {K : PySem.W.Frag} {ct : CT} {F H : Hp} {x : D} {v : V} {b : Bool} (i : In F H) (av : AVal K ct F H x v) (e : truth x = some b) : TruV K v H b := by
  cases x with
  | non => cases e; obtain rfl := av.non; rfl
  | bl b => cases e; obtain rfl := av.bl; rfl
  | int i => cases e; obtain rfl := av.int; rfl
  | str y =>
    obtain rfl := av.str
    simp only [truth] at e
    split at e
    · rename_i hy; cases e; exact ⟨hy, rfl⟩
    · cases e
  | tup l =>
    obtain ⟨a, ws, rfl, h, r⟩ := av.tup
    cases e
    exact .inr (.inl ⟨ws, i.st h, by cases r <;> rfl⟩)
  | lst l =>
    obtain ⟨a, ws, rfl, h, r⟩ := av.lst i
    cases e
    exact .inl ⟨ws, .of h, by cases r <;> rfl⟩
  | dic l =>
    obtain ⟨a, ws, rfl, h, r⟩ := av.dic i
    cases e
    exact .inr (.inr ⟨ws, h, by cases r <;> rfl⟩)
  | scr l =>
    obtain ⟨a, rfl, h⟩ := av.scr
    cases e
    exact .inl ⟨_, i.sl h, by cases l <;> rfl⟩
  | dit _ => cases e
  | ins _ _ => cases e
  | cl _ => cases e
theorem s_test {a : Expr} {m : M} (hp : plainTest a = true) (ha : PE X a (rd X.K L.ct G cl mk E m)) : PT X a (rdT X.K L.ct G cl mk E m) := by
  refine PT.imp (pt_truth ha (test_plain hp)) fun σ H Q h => ?_
  obtain ⟨F, e, o, h⟩ := h
  refine ⟨F, e, o, ?_⟩
  cases q : evE G cl mk m e with
  | er x => rw [q] at h; exact h
  | bad => rw [q] at h; exact h
  | ok x =>
    rw [q] at h
    rw [postT_ok] at h
    intro F1 H1 v st kr
    cases qt : truth x.1 with
    | none => rw [qt] at h; exact h.elim
    | some b =>
      rw [qt] at h
      exact ⟨b, tru_av st.in_ kr.1.any qt, h F1 H1 st⟩
theorem s_notT {a : Expr} {m : M} {pos : Pos} (ha : PT X a (rdT X.K L.ct G cl mk E m)) : PT X (.UnaryOp .Not a pos) (rdT X.K L.ct G cl mk E (.not m)) := by
  refine PT.imp (pt_not ha) fun σ H Q h => ?_
  obtain ⟨F, e, o, h⟩ := h
  unfold evE at h
  refine ⟨F, e, o, ?_⟩
  cases q : evE G cl mk m e with
  | er x => rw [q] at h; exact h
  | bad => rw [q] at h; exact h
  | ok x =>
    rw [q] at h
    simp only [Res.bind] at h
    rw [postT_ok]
    cases qt : truth x.1 with
    | none => rw [qt] at h; exact h.elim
    | some b => rw [qt] at h; exact h
theorem s_not {a : Expr} {m : M} {pos : Pos} (ha : PE X a (rd X.K L.ct G cl mk E m)) : PE X (.UnaryOp .Not a pos) (rd X.K L.ct G cl mk E (.not m)) := by
  refine PE.imp (pe_notT ha) fun σ H Q h => ?_
  obtain ⟨F, e, o, h⟩ := h
  unfold evE at h
  refine rd1 o h fun F1 H1 x v st kr o1 h => ?_
  cases qt : truth x.1 with
  | none => rw [qt] at h; exact h.elim
  | some b =>
    rw [qt] at h
    exact ⟨b, tru_av st.in_ kr.1.any qt, h F1 H1 _ st (KRep.frz .bl)⟩
/-- the rest of an 'and' chain as one expression -/
theorem s_one {op : BoolOp} {a : Expr} {m : M} {pos : Pos} (ha : PE X a (rd X.K L.ct G cl mk E m)) : PE X (.BoolOp op [a] pos) (rd X.K L.ct G cl mk E m) := pe_one ha
theorem post_x {K : PySem.W.Frag} {ct : CT} {F H F1 H1 : Hp} {Er : XK} {Q : VK} {x : D × Kd} {v : V} (h : Post K ct F H Er Q (.ok x)) (st : Step F H F1 H1) (kr : KRep K ct F H F1 H1 x.2 x.1 v) : Q v H1 := h F1 H1 v st kr
theorem s_and {a b : Expr} {rest : List Expr} {m n : M} {pos : Pos} (ha : PE X a (rd X.K L.ct G cl mk E m)) (hb : PE X (.BoolOp .And (b :: rest) pos) (rd X.K L.ct G cl mk E n)) : PE X (.BoolOp .And (a :: b :: rest) pos) (rd X.K L.ct G cl mk E (.and m n)) := by
  refine PE.imp (pe_andT ha hb) fun σ H Q h => ?_
  obtain ⟨F, e, o, h⟩ := h
  unfold evE at h
  refine rd1 o h fun F1 H1 x v st kr o1 h => ?_
  cases qt : truth x.1 with
  | none => rw [qt] at h; exact h.elim
  | some c =>
    rw [qt] at h
    refine ⟨c, tru_av st.in_ kr.1.any qt, ?_⟩
    cases c with
    | true => exact iteT ⟨F1, e, o1, Post.step st h⟩
    | false => exact iteF (post_x h st kr)
theorem s_or {a b : Expr} {rest : List Expr} {m n : M} {pos : Pos} (ha : PE X a (rd X.K L.ct G cl mk E m)) (hb : PE X (.BoolOp .Or (b :: rest) pos) (rd X.K L.ct G cl mk E n)) : PE X (.BoolOp .Or (a :: b :: rest) pos) (rd X.K L.ct G cl mk E (.or m n)) := by
  refine PE.imp (pe_orT ha hb) fun σ H Q h => ?_
  obtain ⟨F, e, o, h⟩ := h
  unfold evE at h
  refine rd1 o h fun F1 H1 x v st kr o1 h => ?_
  cases qt : truth x.1 with
  | none => rw [qt] at h; exact h.elim
  | some c =>
    rw [qt] at h
    refine ⟨c, tru_av st.in_ kr.1.any qt, ?_⟩
    cases c with
    | false => exact iteF ⟨F1, e, o1, Post.step st h⟩
    | true => exact iteT (post_x h st kr)
theorem PostT.step {K : PySem.W.Frag} {ct : CT} {F H F1 H1 : Hp} {Er : XK} {Q : Bool → Hp → Prop} {r : Res (D × Kd)} (s : Step F H F1 H1) (h : PostT K ct F H Er Q r) : PostT K ct F1 H1 Er Q r := by
  cases r with
  | ok x =>
    rw [postT_ok] at h ⊢
    cases q : truth x.1 with
    | none => rw [q] at h; exact h
    | some b => rw [q] at h; exact fun F' H' s' => h F' H' (s.trans s')
  | er x => exact fun H' cls dd e xr => h H' cls dd (s.hp.trans e) xr
  | bad => exact h
/-- one part of a test, then what is done -/
theorem rdT1 {F H : Hp} {σ : L2.St} {e : Dv.Env} {m : M} {f : Bool → D × Kd → Res (D × Kd)} {Q R : Bool → Hp → Prop} (o : SOk X.K L.ct F H σ e)
    (h : PostT X.K L.ct F H (E σ) Q ((evE G cl mk m e).bind fun x => match truth x.1 with | some b => f b x | none => .bad))
    (k : ∀ F1 H1 x b, Step F H F1 H1 → truth x.1 = some b → SOk X.K L.ct F1 H1 σ e → PostT X.K L.ct F H (E σ) Q (f b x) → R b H1) : rdT X.K L.ct G cl mk E m σ H R := by
  refine ⟨F, e, o, ?_⟩
  cases q : evE G cl mk m e with
  | er x => rw [q] at h; exact h
  | bad => rw [q] at h; exact h
  | ok x =>
    rw [q] at h
    simp only [Res.bind] at h
    rw [postT_ok]
    cases qt : truth x.1 with
    | none => rw [qt] at h; exact h.elim
    | some b => rw [qt] at h; exact fun F1 H1 st => k F1 H1 x b st qt (o.step st) h
theorem s_andT {a b : Expr} {rest : List Expr} {m n : M} {pos : Pos} (ha : PT X a (rdT X.K L.ct G cl mk E m)) (hb : PW X (.BoolOp .And (b :: rest) pos) (rdT X.K L.ct G cl mk E n)) : PW X (.BoolOp .And (a :: b :: rest) pos) (rdT X.K L.ct G cl mk E (.and m n)) := by
  refine PW.imp (pw_and ha hb) fun σ H Q h => ?_
  obtain ⟨F, e, o, h⟩ := h
  unfold evE at h
  refine ⟨F, e, o, ?_⟩
  cases q : evE G cl mk m e with
  | er x => rw [q] at h; exact h
  | bad => rw [q] at h; exact h
  | ok x =>
    rw [q] at h
    simp only [Res.bind] at h
    rw [postT_ok]
    cases qt : truth x.1 with
    | none => rw [qt] at h; exact h.elim
    | some k =>
      rw [qt] at h
      intro F1 H1 st
      cases k with
      | true => exact iteT ⟨F1, e, o.step st, PostT.step st h⟩
      | false => 
        refine iteF ?_
        rw [postT_ok, qt] at h
        exact h F1 H1 st
theorem s_orT {a b : Expr} {rest : List Expr} {m n : M} {pos : Pos} (ha : PT X a (rdT X.K L.ct G cl mk E m)) (hb : PW X (.BoolOp .Or (b :: rest) pos) (rdT X.K L.ct G cl mk E n)) : PW X (.BoolOp .Or (a :: b :: rest) pos) (rdT X.K L.ct G cl mk E (.or m n)) := by
  refine PW.imp (pw_or ha hb) fun σ H Q h => ?_
  obtain ⟨F, e, o, h⟩ := h
  unfold evE at h
  refine ⟨F, e, o, ?_⟩
  cases q : evE G cl mk m e with
  | er x => rw [q] at h; exact h
  | bad => rw [q] at h; exact h
  | ok x =>
    rw [q] at h
    simp only [Res.bind] at h
    rw [postT_ok]
    cases qt : truth x.1 with
    | none => rw [qt] at h; exact h.elim
    | some k =>
      rw [qt] at h
      intro F1 H1 st
      cases k with
      | true => 
        refine iteT ?_
        rw [postT_ok, qt] at h
        exact h F1 H1 st
      | false => exact iteF ⟨F1, e, o.step st, PostT.step st h⟩
theorem s_ite {c a b : Expr} {t m n : M} {pos : Pos} (hc : PT X c (rdT X.K L.ct G cl mk E t)) (ha : PE X a (rd X.K L.ct G cl mk E m)) (hb : PE X b (rd X.K L.ct G cl mk E n)) : PE X (.IfExp c a b pos) (rd X.K L.ct G cl mk E (.ite t m n)) := by
  refine PE.imp (pe_ifExp hc ha hb) fun σ H Q h => ?_
  obtain ⟨F, e, o, h⟩ := h
  unfold evE at h
  refine ⟨F, e, o, ?_⟩
  cases q : evE G cl mk t e with
  | er x => rw [q] at h; exact h
  | bad => rw [q] at h; exact h
  | ok x =>
    rw [q] at h
    simp only [Res.bind] at h
    rw [postT_ok]
    cases qt : truth x.1 with
    | none => rw [qt] at h; exact h.elim
    | some k =>
      rw [qt] at h
      intro F1 H1 st
      cases k with
      | true => exact iteT ⟨F1, e, o.step st, Post.step st h⟩
      | false => exact iteF ⟨F1, e, o.step st, Post.step st h⟩
end
end Dv
end
section
set_option Elab.async false
set_option linter.all false
set_option maxRecDepth 100000
set_option maxHeartbeats 4000000
namespace Dv
open PySem PySem.Spec PyProof.Rows L2
variable [Tt]
section
variable {X : Cx} {L : Lk} {G : Gm} {cl : Nat → List D → Res (D × Kd)} {mk : Nat → List D → Res D} {E : L2.St → XK}
/-! ### a < b < c -/
theorem flat_any {K : PySem.W.Frag} {ct : CT} {F H F' : Hp} {d : D} {v : V} (hf : flatD d = true) (a : AVal K ct F H d v) : Rep K ct F' d v := by
  cases d <;> first | (obtain rfl := a.non; exact .non) | (obtain rfl := a.bl; exact .bl) | (obtain rfl := a.int; exact .int) | (obtain rfl := a.str; exact .str) | cases hf
theorem flat_val {K : PySem.W.Frag} {ct : CT} {F H F' H' : Hp} {d : D} {v : V} {k : Kd} (hf : flatD d = true) (a : Val K ct F H k d v) : k = .frz := by
  cases k with
  | frz => rfl
  | fr => obtain ⟨p, _, _, o⟩ := a; cases d <;> first | exact o.elim | cases hf
  | bor => obtain ⟨p, _, _, o⟩ := a; cases d <;> first | exact o.elim | cases hf
def noSets (l : List Expr) : Bool := l.all noSet
theorem s_cmp2 (g : Good X L cl mk E) {o p : Cop} {a b c : Expr} {m n l : M} {pos : Pos} (hc' : noSet c = true) (ow : OwnC X L G cl E o) (ow2 : OwnC X L G cl E p) (ha : PE X a (rd X.K L.ct G cl mk E m)) (hb : PE X b (rd X.K L.ct G cl mk E n)) (hc : PE X c (rd X.K L.ct G cl mk E l)) :
    PE X (.Compare a [pyCmp o, pyCmp p] [b, c] pos) (rd X.K L.ct G cl mk E (.cmp2 o p m n l)) := by
  refine ⟨fun pins s σ H Q I h => ?_⟩
  obtain ⟨F, e, o', h⟩ := h
  unfold evE at h
  have step1 := rd2 (R := fun v u H2 => ∃ F2 x y, At2 X.K L.ct F H F2 H2 x y v u ∧ SOk X.K L.ct F2 H2 σ e ∧ Post X.K L.ct F H (E σ) Q (if flatD y.1 then (cmpM G cl o (nbor x.2 y.2) x.1 y.1).bind fun k => match k with
    | false => .ok (.bl false, .frz)
    | true => (evE G cl mk l e).bind fun z => (cmpM G cl p (nbor y.2 z.2) y.1 z.1).bind fun b => .ok (.bl b, .frz) else .bad)) o' h fun F2 H2 x y v u st kx ky o2 h => ⟨F2, x, y, ⟨st, kx, ky⟩, o2, h⟩
  refine Compare_chain (thn (ha.run pins s σ H _ I step1) fun vv s1 ⟨v, H1, I1, r1, q1⟩ => chain_link (thn (hb.run pins s1 σ H1 _ I1 q1) fun uu s2 ⟨u, H2, I2, r2, F2, x, y, t, o2, h⟩ => ?_)) (notSet hc')
  by_cases hf : flatD y.1 = true
  · rw [if_pos hf] at h
    refine thn (cmp_run g.units ow I2 r1 r2 (Q := fun z H3 => ∃ k, z = .bl k ∧ if k = true then ∃ F3, Step F H F3 H3 ∧ Post X.K L.ct F3 H3 (E σ) Q ((evE G cl mk l e).bind fun z => (cmpM G cl p (nbor y.2 z.2) y.1 z.1).bind fun b => .ok (.bl b, .frz)) else Q (.bl false) H3) t fun F3 s3 => ?_) fun d s3 ⟨z, H3, I3, r3, k, ek, q3⟩ => ?_
    · cases qc : cmpM G cl o (nbor x.2 y.2) x.1 y.1 with
      | er _ => rw [qc] at h; exact (Post.step s3 h : Post X.K L.ct F3 H2 (E σ) Q (.er _))
      | bad => rw [qc] at h; exact h
      | ok k =>
        rw [qc] at h
        intro F4 H4 v4 s4 kr4
        have := kr4.1.any.bl
        subst this
        refine ⟨k, rfl, ?_⟩
        cases k with
        | true => exact iteT ⟨F4, s3.trans s4, Post.step (s3.trans s4) h⟩
        | false => exact iteF (h F4 H4 _ (s3.trans s4) (KRep.frz .bl))
    · subst ek
      cases r3
      refine wpAny_truthy_bool ?_
      cases k with
      | false => exact ite_ff ⟨.bl false, H3, I3, rfl, q3⟩
      | true =>
        obtain ⟨F3, s3', h3⟩ := q3
        have o3 := o'.step s3'
        refine ite_tt (chain_last (thn (hc.run pins s3 σ H3 _ I3 (rd1 (R := fun w H4 => ∃ F4 z, Step F3 H3 F4 H4 ∧ KRep X.K L.ct F3 H3 F4 H4 z.2 z.1 w ∧ Post X.K L.ct F3 H3 (E σ) Q ((cmpM G cl p (nbor y.2 z.2) y.1 z.1).bind fun b => .ok (.bl b, .frz))) o3 h3 fun F4 H4 z w s4 kr4 _ h4 => ⟨F4, z, s4, kr4, h4⟩)) fun ww s4 ⟨w, H4, I4, r4, F4, z, s4', kr4, h4⟩ => ?_))
        have ky : KRep X.K L.ct F3 H3 F4 H4 y.2 y.1 u := by
          have e1 := flat_val (F' := F4) (H' := H4) hf t.2.2.1
          rw [e1]
          exact KRep.frz (flat_any hf t.2.2.1.any)
        exact cmp_run (x := y) (y := z) g.units ow2 I4 r2 r4 ⟨s4', ky, kr4⟩ fun F5 s5 => Post.step s5 h4
  · rw [if_neg hf] at h
    exact h.elim
theorem s_cmp2T (g : Good X L cl mk E) {o p : Cop} {a b c : Expr} {m n l : M} {pos : Pos} (hc' : noSet c = true) (ow : OwnC X L G cl E o) (ow2 : OwnC X L G cl E p) (ha : PE X a (rd X.K L.ct G cl mk E m)) (hb : PE X b (rd X.K L.ct G cl mk E n)) (hc : PE X c (rd X.K L.ct G cl mk E l)) :
    PT X (.Compare a [pyCmp o, pyCmp p] [b, c] pos) (rdT X.K L.ct G cl mk E (.cmp2 o p m n l)) := by
  refine ⟨fun pins s σ H Q I h => ?_⟩
  obtain ⟨F, e, o', h⟩ := h
  unfold evE at h
  have h2 : Post X.K L.ct F H (E σ) (fun v H' => ∃ k, v = .bl k ∧ Q k H') ((evE G cl mk m e).bind fun x => (evE G cl mk n e).bind fun y => if flatD y.1 then (cmpM G cl o (nbor x.2 y.2) x.1 y.1).bind fun k => match k with
    | false => .ok (.bl false, .frz)
    | true => (evE G cl mk l e).bind fun z => (cmpM G cl p (nbor y.2 z.2) y.1 z.1).bind fun b => .ok (.bl b, .frz) else .bad) := by
    cases q : evE G cl mk m e with
    | er x => rw [q] at h; exact h
    | bad => rw [q] at h; exact h
    | ok x =>
      rw [q] at h
      simp only [Res.bind] at h ⊢
      cases q2 : evE G cl mk n e with
      | er x => rw [q2] at h; exact h
      | bad => rw [q2] at h; exact h
      | ok y =>
        rw [q2] at h
        dsimp only at h ⊢
        by_cases hf : flatD y.1 = true
        · rw [if_pos hf] at h ⊢
          cases q3 : cmpM G cl o (nbor x.2 y.2) x.1 y.1 with
          | er x => rw [q3] at h; exact h
          | bad => rw [q3] at h; exact h
          | ok k =>
            rw [q3] at h
            dsimp only at h ⊢
            cases k with
            | false => exact postT_of (r := .ok false) h
            | true =>
              dsimp only at h ⊢
              cases q4 : evE G cl mk l e with
              | er x => rw [q4] at h; exact h
              | bad => rw [q4] at h; exact h
              | ok z => rw [q4] at h; exact postT_of h
        · rw [if_neg hf] at h ⊢
          exact h
  have step1 := rd2 (R := fun v u H2 => ∃ F2 x y, At2 X.K L.ct F H F2 H2 x y v u ∧ SOk X.K L.ct F2 H2 σ e ∧ Post X.K L.ct F H (E σ) (fun v H' => ∃ k, v = .bl k ∧ Q k H') (if flatD y.1 then (cmpM G cl o (nbor x.2 y.2) x.1 y.1).bind fun k => match k with
    | false => .ok (.bl false, .frz)
    | true => (evE G cl mk l e).bind fun z => (cmpM G cl p (nbor y.2 z.2) y.1 z.1).bind fun b => .ok (.bl b, .frz) else .bad)) o' h2 fun F2 H2 x y v u st kx ky o2 h => ⟨F2, x, y, ⟨st, kx, ky⟩, o2, h⟩
  refine isTrue_chain (thn (ha.run pins s σ H _ I step1) fun vv s1 ⟨v, H1, I1, r1, q1⟩ => test_link (thn (hb.run pins s1 σ H1 _ I1 q1) fun uu s2 ⟨u, H2, I2, r2, F2, x, y, t, o2, h⟩ => ?_)) (notSet hc')
  by_cases hf : flatD y.1 = true
  · rw [if_pos hf] at h
    refine thn (cmp_run g.units ow I2 r1 r2 (Q := fun z H3 => ∃ k, z = .bl k ∧ if k = true then ∃ F3, Step F H F3 H3 ∧ Post X.K L.ct F3 H3 (E σ) (fun v H' => ∃ k, v = .bl k ∧ Q k H') ((evE G cl mk l e).bind fun z => (cmpM G cl p (nbor y.2 z.2) y.1 z.1).bind fun b => .ok (.bl b, .frz)) else Q false H3) t fun F3 s3 => ?_) fun d s3 ⟨z, H3, I3, r3, k, ek, q3⟩ => ?_
    · cases qc : cmpM G cl o (nbor x.2 y.2) x.1 y.1 with
      | er _ => rw [qc] at h; exact (Post.step s3 h : Post X.K L.ct F3 H2 (E σ) _ (.er _))
      | bad => rw [qc] at h; exact h
      | ok k =>
        rw [qc] at h
        intro F4 H4 v4 s4 kr4
        have := kr4.1.any.bl
        subst this
        refine ⟨k, rfl, ?_⟩
        cases k with
        | true => exact iteT ⟨F4, s3.trans s4, Post.step (s3.trans s4) h⟩
        | false =>
          obtain ⟨k', e', q'⟩ := h F4 H4 _ (s3.trans s4) (KRep.frz .bl)
          cases e'
          exact iteF q'
    · subst ek
      cases r3
      refine wpAny_truthy_bool ?_
      cases k with
      | false => exact ite_ff ⟨H3, I3, q3⟩
      | true =>
        obtain ⟨F3, s3', h3⟩ := q3
        have o3 := o'.step s3'
        refine ite_tt (test_last (thn (hc.run pins s3 σ H3 _ I3 (rd1 (R := fun w H4 => ∃ F4 z, Step F3 H3 F4 H4 ∧ KRep X.K L.ct F3 H3 F4 H4 z.2 z.1 w ∧ Post X.K L.ct F3 H3 (E σ) (fun v H' => ∃ k, v = .bl k ∧ Q k H') ((cmpM G cl p (nbor y.2 z.2) y.1 z.1).bind fun b => .ok (.bl b, .frz))) o3 h3 fun F4 H4 z w s4 kr4 _ h4 => ⟨F4, z, s4, kr4, h4⟩)) fun ww s4 ⟨w, H4, I4, r4, F4, z, s4', kr4, h4⟩ => ?_))
        have ky : KRep X.K L.ct F3 H3 F4 H4 y.2 y.1 u := by
          have e1 := flat_val (F' := F4) (H' := H4) hf t.2.2.1
          rw [e1]
          exact KRep.frz (flat_any hf t.2.2.1.any)
        refine thn (cmp_run (x := y) (y := z) g.units ow2 I4 r2 r4 ⟨s4', ky, kr4⟩ fun F5 s5 => Post.step s5 h4) fun d' s5 ⟨z2, H5, I5, r5, k2, e2, q5⟩ => ?_
        subst e2
        cases r5
        exact wpAny_truthy_bool ⟨H5, I5, q5⟩
  · rw [if_neg hf] at h
    exact h.elim
end
end Dv
end
section
set_option Elab.async false
set_option linter.all false
set_option maxRecDepth 100000
set_option maxHeartbeats 4000000
namespace Dv
open PySem PySem.Spec PyProof.Rows L2
variable [Tt]
section
variable {X : Cx} {L : Lk} {G : Gm} {cl : Nat → List D → Res (D × Kd)} {mk : Nat → List D → Res D} {E : L2.St → XK}
/-! ### subscripts -/
theorem atI_map {α β : Type} {l : List α} {f : α → β} {i : Int} : atI (l.map f) i = (atI l i).map f := by
  unfold atI
  rw [List.length_map]
  cases ixN l.length i with
  | none => rfl
  | some j => simp
theorem atI_rep {K : PySem.W.Frag} {ct : CT} {F : Hp} {l : List D} {ws : List V} {i : Int} {d : D} (r : Reps K ct F l ws) (e : atI l i = some d) : ∃ v, atI ws i = some v ∧ Rep K ct F d v := by
  unfold atI at e ⊢
  rw [← r.length]
  cases q : ixN l.length i with
  | none => rw [q] at e; cases e
  | some j => rw [q] at e; exact r.get e
/-- an own class's subscript -/
def OwnI (X : Cx) (L : Lk) (G : Gm) (cl : Nat → List D → Res (D × Kd)) (E : L2.St → XK) : Prop :=
  ∀ (value slice : Expr) (pins : List (Addr × Obj)) (s : Shared) (σ : L2.St) (F H : Hp) (c f : Nat) (fs : List (Str × D)) (y : D) (v u : V) (vv uu : Value) (Q : VK), noSlice slice = true → Inv X pins σ H s → RelV v vv → RelV u uu → In F H → Rep X.K L.ct F (.ins c fs) v → Rep X.K L.ct F y u →
    lookC G c "__getitem__" = some f → Post X.K L.ct F H (E σ) Q (cl f [.ins c fs, y]) → wpAny (model X.prog X.w) X.A (subscriptTail value slice vv uu) (EP X pins σ Q) X.xe s
theorem ix_run (g : Good X L cl mk E) (ow : OwnI X L G cl E) {value slice : Expr} (hs : noSlice slice = true) {F H F2 H2 : Hp} {x y : D × Kd} {v u : V} {vv uu : Value} {pins : List (Addr × Obj)} {s : Shared} {σ : L2.St} {Q : VK} (I : Inv X pins σ H2 s) (rv : RelV v vv) (ru : RelV u uu)
    (t : At2 X.K L.ct F H F2 H2 x y v u) (h : Post X.K L.ct F H (E σ) Q (match ixD x.1 y.1 with
      | some d => .ok (d, .frz)
      | none => match x.1 with
        | .ins c fs => match nbor x.2 y.2, lookC G c "__getitem__" with | true, some f => cl f [x.1, y.1] | _, _ => .bad
        | _ => .bad)) : wpAny (model X.prog X.w) X.A (subscriptTail value slice vv uu) (EP X pins σ Q) X.xe s := by
  obtain ⟨x, kx⟩ := x
  obtain ⟨y, ky⟩ := y
  obtain ⟨st, kv, ku⟩ := t
  dsimp only at h kv ku
  have av := kv.1.any
  have au := ku.1.any
  cases qi : ixD x y with
  | none =>
    rw [qi] at h
    dsimp only at h
    cases x with
    | ins c fs =>
      dsimp only at h
      cases hn : nbor kx ky with
      | false => rw [hn] at h; exact h.elim
      | true =>
        rw [hn] at h
        cases hl : lookC G c "__getitem__" with
        | none => rw [hl] at h; exact h.elim
        | some f =>
          rw [hl] at h
          have n1 : kx ≠ .bor := fun z => by subst z; cases hn
          have n2 : ky ≠ .bor := fun z => by subst z; cases kx <;> cases hn
          obtain ⟨F3, s3, e3, r1, r2⟩ := kv.fix2 st n1 ku n2
          exact ow value slice pins s σ F3 H2 c f fs y v u vv uu Q hs I rv ru s3.in_ r1 r2 hl (Post.step s3 h)
    | _ => exact h.elim
  | some d =>
    rw [qi] at h
    dsimp only at h
    have hs' := plain_ix hs vv uu
    unfold ixD at qi
    split at qi
    · obtain ⟨a, ws, rfl, ha, ra⟩ := av.lst st.in_
      obtain rfl := au.int
      obtain ⟨w, e, r⟩ := atI_rep ra qi
      exact ix_list value slice pins s σ H2 _ _ vv uu Q I rv ru ⟨a, ws, _, w, rfl, rfl, .of ha, e, h F2 H2 w st (KRep.frz r)⟩ hs'
    · obtain ⟨a, ws, rfl, ha, ra⟩ := av.tup
      obtain rfl := au.int
      obtain ⟨w, e, r⟩ := atI_rep ra qi
      exact ix_tup value slice pins s σ H2 _ _ vv uu Q I rv ru ⟨a, ws, _, w, rfl, rfl, st.in_.st ha, e, h F2 H2 w st (KRep.frz r)⟩ hs'
    · rename_i l i
      obtain ⟨a, rfl, ha⟩ := av.scr
      obtain rfl := au.int
      cases qa : atI l i with
      | none => rw [qa] at qi; cases qi
      | some j =>
        rw [qa] at qi
        cases qi
        exact ix_list value slice pins s σ H2 _ _ vv uu Q I rv ru ⟨a, _, _, .int j, rfl, rfl, st.in_.sl ha, by rw [atI_map, qa]; rfl, h F2 H2 _ st (KRep.frz .int)⟩ hs'
    · obtain ⟨a, ws, rfl, ha, ra⟩ := av.dic st.in_
      cases qk : keyD y with
      | none => rw [qk] at qi; cases qi
      | some k =>
        rw [qk] at qi
        obtain ⟨w, e, r⟩ := (valK_rep (k := k) ra).1 d qi
        have ek := key_v qk (au.rep st.in_)
        subst ek
        cases rv
        have dg : DGet H2 a (kV k) (some w) := by
          have := DGet.k (k := k) ha
          rw [e] at this
          exact this
        exact tail_any (dict_typeIs I dg) PySem.F.slot_dict_getitem.lookup (d_getItem (by have := g.units; omega) I dg ru fun w' s' I' rw' => ⟨w, H2, I', rw', h F2 H2 w st (KRep.frz r)⟩) hs'
    · cases qi
theorem s_ix (g : Good X L cl mk E) (ow : OwnI X L G cl E) {a b : Expr} {m n : M} {pos : Pos} (hs : noSlice b = true) (ha : PE X a (rd X.K L.ct G cl mk E m)) (hb : PE X b (rd X.K L.ct G cl mk E n)) : PE X (.Subscript a b pos) (rd X.K L.ct G cl mk E (.ix m n)) := by
  refine ⟨fun pins s σ H Q I h => ?_⟩
  obtain ⟨F, e, o', h⟩ := h
  unfold evE at h
  exact Subscript_ (binT ha hb I (rd2 (R := fun v u H2 => ∃ F2 x y, At2 X.K L.ct F H F2 H2 x y v u ∧ Post X.K L.ct F H (E σ) Q (match ixD x.1 y.1 with
      | some d => .ok (d, .frz)
      | none => match x.1 with
        | .ins c fs => match nbor x.2 y.2, lookC G c "__getitem__" with | true, some f => cl f [x.1, y.1] | _, _ => .bad
        | _ => .bad)) o' h fun F2 H2 x y v u st kx ky _ h => ⟨F2, x, y, ⟨st, kx, ky⟩, h⟩)
    fun vv uu s2 v u H2 I2 rv ru ⟨F2, x, y, t, h⟩ => ix_run g ow hs I2 rv ru t h)
/-! ### slices -/
theorem cut_rep {K : PySem.W.Frag} {ct : CT} {F : Hp} {l : List D} {ws : List V} {lo hi : Option Int} (r : Reps K ct F l ws) : Reps K ct F (cutD l lo hi) (cutV ws lo hi) := by
  unfold cutD cutV
  rw [r.length]
  exact (r.drop _).take _
theorem cut_whole {l : List D} {lo hi : Option Int} (h : HT.sIx l.length 0 lo = 0 ∧ HT.sIx l.length l.length hi = l.length) : cutD l lo hi = l := by
  unfold cutD
  rw [h.1, h.2]
  simp
theorem cut_ints {l : List Int} {lo hi : Option Int} : cutV (l.map V.int) lo hi = (cutD l lo hi).map V.int := by
  unfold cutD cutV
  rw [List.length_map, List.map_take, List.map_drop]
theorem ints_rep {K : PySem.W.Frag} {ct : CT} {F : Hp} : ∀ (l : List Int), Reps K ct F (l.map D.int) (l.map V.int)
  | [] => .nil
  | _ :: l => .cons .int (ints_rep l)
def rSl (K : PySem.W.Frag) : V → Option Int → Option Int → Hp → VK → Prop := fun x lo hi H Q => rSlL K x lo hi H Q ∨ rSlA K x lo hi H Q
theorem sl_two : SlR X (rSl X.K) := SlR.or sl_list sl_tupA
theorem sl_read {F H F2 H2 : Hp} {x : D × Kd} {lo hi : Option Int} {v : V} {Er : XK} {Q : VK} (st : Step F H F2 H2) (av : AVal X.K L.ct F2 H2 x.1 v) (h : Post X.K L.ct F H Er Q (ofO (slD x.1 lo hi))) : rSl X.K v lo hi H2 Q := by
  obtain ⟨x, kx⟩ := x
  dsimp only at av h
  unfold slD at h
  split at h
  · obtain ⟨a, ws, rfl, ha, ra⟩ := av.lst st.in_
    exact .inl ⟨a, ws, rfl, .of ha, fun p hp => post_new st.in_ (Post.step st h) hp ⟨_, upd_same, cut_rep ra⟩⟩
  · obtain ⟨a, ws, rfl, ha, ra⟩ := av.tup
    refine .inr ⟨a, ws, rfl, st.in_.st ha, fun hw => ?_, fun _ p hp => post_tup st.in_ (Post.step st h) hp (cut_rep ra)⟩
    refine h F2 H2 _ st (KRep.frz ?_)
    rw [← ra.length] at hw
    rw [cut_whole hw]
    exact .tup ha ra
  · obtain ⟨a, rfl, ha⟩ := av.scr
    refine .inl ⟨a, _, rfl, st.in_.sl ha, fun p hp => ?_⟩
    rw [cut_ints]
    exact post_new st.in_ (Post.step st h) hp ⟨_, upd_same, ints_rep _⟩
  · exact h.elim
theorem s_slL {a b : Expr} {m n : M} {pos p2 : Pos} (ha : PE X a (rd X.K L.ct G cl mk E m)) (hb : PE X b (rd X.K L.ct G cl mk E n)) : PE X (.Subscript a (.Slice (some b) none none p2) pos) (rd X.K L.ct G cl mk E (.slL m n)) := by
  refine PE.imp (pe_slice sl_two ha (po_some hb) po_none) fun σ H Q h => ?_
  obtain ⟨F, e, o, h⟩ := h
  unfold evE at h
  refine rd2 (R := fun x u H2 => ∃ i, u = .int i ∧ rSl X.K x (some i) none H2 Q) o h fun F2 H2 x y v u st kx ky _ h => ?_
  obtain ⟨y, k⟩ := y
  dsimp only at h
  cases y <;> first | exact h.elim | skip
  rename_i i
  exact ⟨i, ky.1.any.int, sl_read st kx.1.any h⟩
theorem s_slH {a b : Expr} {m n : M} {pos p2 : Pos} (ha : PE X a (rd X.K L.ct G cl mk E m)) (hb : PE X b (rd X.K L.ct G cl mk E n)) : PE X (.Subscript a (.Slice none (some b) none p2) pos) (rd X.K L.ct G cl mk E (.slH m n)) := by
  refine PE.imp (pe_slice sl_two ha po_none (po_some hb)) fun σ H Q h => ?_
  obtain ⟨F, e, o, h⟩ := h
  unfold evE at h
  refine rd2 (R := fun x u H2 => ∃ i, u = .int i ∧ rSl X.K x none (some i) H2 Q) o h fun F2 H2 x y v u st kx ky _ h => ?_
  obtain ⟨y, k⟩ := y
  dsimp only at h
  cases y <;> first | exact h.elim | skip
  rename_i i
  exact ⟨i, ky.1.any.int, sl_read st kx.1.any h⟩
theorem s_sl {a b c : Expr} {m n l : M} {pos p2 : Pos} (ha : PE X a (rd X.K L.ct G cl mk E m)) (hb : PE X b (rd X.K L.ct G cl mk E n)) (hc : PE X c (rd X.K L.ct G cl mk E l)) : PE X (.Subscript a (.Slice (some b) (some c) none p2) pos) (rd X.K L.ct G cl mk E (.sl m n l)) := by
  refine PE.imp (pe_slice sl_two ha (po_some hb) (po_some hc)) fun σ H Q h => ?_
  obtain ⟨F, e, o, h⟩ := h
  unfold evE at h
  refine ⟨F, e, o, ?_⟩
  cases q : evE G cl mk m e with
  | er x => rw [q] at h; exact h
  | bad => rw [q] at h; exact h
  | ok x =>
    rw [q] at h
    intro F1 H1 v s1 kx
    refine ⟨F1, e, o.step s1, ?_⟩
    have h := Post.step s1 h
    simp only [Res.bind] at h
    cases q2 : evE G cl mk n e with
    | er y => simp only [q2] at h; exact h
    | bad => simp only [q2] at h; exact h
    | ok y =>
      simp only [q2] at h
      intro F2 H2 u s2 ky
      obtain ⟨y, ky'⟩ := y
      dsimp only at h
      cases y <;> first | exact h.elim | skip
      rename_i i
      dsimp only at h
      refine ⟨i, ky.1.any.int, F2, e, (o.step s1).step s2, ?_⟩
      have h := Post.step s2 h
      cases q3 : evE G cl mk l e with
      | er z => rw [q3] at h; exact h
      | bad => rw [q3] at h; exact h
      | ok z =>
        rw [q3] at h
        intro F3 H3 w s3 kz
        obtain ⟨z, kz'⟩ := z
        simp only at h
        cases z <;> first | exact h.elim | skip
        rename_i j
        exact ⟨j, kz.1.any.int, sl_read s3 (((kx.fwd s2).fwd s3).1.any) h⟩
end
end Dv
end
section
set_option Elab.async false
set_option linter.all false
set_option maxRecDepth 100000
set_option maxHeartbeats 4000000
namespace Dv
open PySem PySem.Spec PyProof.Rows L2
variable [Tt]
/-! ### calls -/
theorem star_all {env : PySem.Env} {pos : Pos} : ∀ {es : List Expr}, es.all noStar = true → (backTo pos (starEach es env)).all (fun x => !x.1) = true
  | [], _ => rfl
  | e :: es, h => by
    obtain ⟨a, b⟩ := Bool.and_eq_true_iff.mp (List.all_cons ▸ h)
    rw [star_cons a]
    exact star_all (es := es) b
theorem meth_form {env : PySem.Env} {pos : Pos} {es : List Expr} (h : es.all noStar = true) (hn : es.length < 30) : methodCallForm (es.length + ([] : List Keyword).length) (backTo pos (starEach es env)) (backToKw pos (keywordEach [] env)) = true := by
  unfold methodCallForm
  rw [star_all h]
  show (true && true && decide (es.length + 0 + 0 < 30)) = true
  rw [decide_eq_true (by omega)]
  rfl
theorem meth_eval {o : Expr} {name : Str} {apos pos : Pos} {es : List Expr} {env : PySem.Env} (hb : baseOk o = true) (hl : (apos.endLine == pos.line) = true) (h : es.all noStar = true) (hn : es.length < 30) :
    eval (.Call (.Attribute o name apos) es [] pos) env = (do
      let ov ← eval o env
      standAt apos.atName
      let (f, first) ← holding [ov] (getMethod ov name (do return (← importBound o env).getD true))
      callWith pos f first (backTo pos (starEach es env)) (backToKw pos (keywordEach [] env))) := by
  show (do
    let ov ← attributeBase o name env (eval o env)
    standAt apos.atName
    methodCall o name apos pos env ov (es.length + ([] : List Keyword).length) (backTo pos (starEach es env)) (backToKw pos (keywordEach [] env))) = _
  rw [base_ok hb]
  unfold methodCall calleeOf methodCallPos
  rw [meth_form h hn]
  simp only [Bool.not_true, Bool.false_or, hl, if_true]
  rfl
/-- C.m is a static method, its def at g -/
structure SMet (K : PySem.W.Frag) (C : Addr) (mc : Value) (m : Str) (g : Addr) : Prop where
  at_ : ∃ p, PySem.W.findCls K (.ref C) mc m = some (.get (.builtin "staticmethod.__get__") (.ref p) .none (.ref C)) ∧ ∃ rest, PySem.W.recIn K p "staticmethod" = some (.ref g :: rest)
  kp : PySem.W.keepIn K (.ref g) = true
/-- of a class -/
structure ClsF (K : PySem.W.Frag) (L : Lk) (c : Nat) (k : Cl) : Prop where
  cls : Cls K (L.ct c)
  kp : PySem.W.keepIn K (.ref (L.ct c)) = true
  fld : ∀ f, k.flds.contains f = true → NoAttr K (L.ct c) f
  meth : ∀ m i, k.meths.lookup m = some i → Meth K (L.ct c) m (L.fa i)
  prop : ∀ f i, k.props.lookup f = some i → ∃ p, PropOf K (L.ct c) f p (L.fa i)
  cm : ∀ m i, k.cms.lookup m = some i → ∃ mc p, ClX.CRead K (L.ct c) mc ∧ ClX.CMet K (L.ct c) mc m p (L.fa i)
  sm : ∀ m i, k.sts.lookup m = some i → ∃ mc, ClX.CRead K (L.ct c) mc ∧ SMet K (L.ct c) mc m (L.fa i)
section
variable {X : Cx} {L : Lk} {G : Gm} {cl : Nat → List D → Res (D × Kd)} {mk : Nat → List D → Res D} {E : L2.St → XK}
theorem clsF_m (cf : ∀ c k, G.cls[c]? = some k → ClsF X.K L c k) {c f : Nat} {m : Str} (h : lookC G c m = some f) : Cls X.K (L.ct c) ∧ Meth X.K (L.ct c) m (L.fa f) := by
  unfold lookC at h
  split at h
  · rename_i k hk; exact ⟨(cf c k hk).cls, (cf c k hk).meth m f h⟩
  · cases h
theorem clsF_p (cf : ∀ c k, G.cls[c]? = some k → ClsF X.K L c k) {c f : Nat} {m : Str} (h : lookP G c m = some f) : Cls X.K (L.ct c) ∧ ∃ p, PropOf X.K (L.ct c) m p (L.fa f) := by
  unfold lookP at h
  split at h
  · rename_i k hk; exact ⟨(cf c k hk).cls, (cf c k hk).prop m f h⟩
  · cases h
theorem clsF_f (cf : ∀ c k, G.cls[c]? = some k → ClsF X.K L c k) {c : Nat} {m : Str} (h : lookF G c m = true) : Cls X.K (L.ct c) ∧ NoAttr X.K (L.ct c) m := by
  unfold lookF at h
  split at h
  · rename_i k hk; exact ⟨(cf c k hk).cls, (cf c k hk).fld m h⟩
  · cases h
theorem s_att (g : Good X L cl mk E) (cf : ∀ c k, G.cls[c]? = some k → ClsF X.K L c k) {a : Expr} {f : Str} {m : M} {pos : Pos} (hb : baseOk a = true) (ha : PE X a (rd X.K L.ct G cl mk E m)) : PE X (.Attribute a f pos) (rd X.K L.ct G cl mk E (.att m f)) := by
  refine ⟨fun pins s σ H Q I h => ?_⟩
  obtain ⟨F, e, o', h⟩ := h
  unfold evE at h
  refine attr_of (base_ok hb) (thn (ha.run pins s σ H _ I (rd1 (R := fun v H2 => ∃ F2, ∃ x : D × Kd, Step F H F2 H2 ∧ KRep X.K L.ct F H F2 H2 x.2 x.1 v ∧ Post X.K L.ct F H (E σ) Q (match x.1 with
    | .ins c fs => match fs.lookup f with
      | some d => if lookF G c f then .ok (d, .frz) else .bad
      | none => match lookP G c f with | some g => if x.2 = .bor then .bad else (match cl g [x.1] with | .ok r => .ok r | _ => .bad) | none => .bad
    | _ => .bad)) o' h fun F1 H1 x v st kr _ h => ⟨F1, x, st, kr, h⟩)) fun u s1 ⟨v, H1, I1, r1, F1, x, st, kr, h⟩ => ?_)
  obtain ⟨x, kx⟩ := x
  dsimp only at h kr
  cases x <;> first | exact h.elim | skip
  rename_i c fs
  dsimp only at h
  obtain ⟨p, dx, ws, rfl, hp, rf⟩ := kr.1.any.ins st.in_
  cases r1
  cases q : fs.lookup f with
  | some d =>
    rw [q] at h
    dsimp only at h
    by_cases hf : lookF G c f = true
    · rw [if_pos hf] at h
      obtain ⟨hc, hn⟩ := clsF_f cf hf
      obtain ⟨w, hw, rw'⟩ := rf.look q
      exact getattr_ok I1 hp hc hn hw fun u s' I' ru => ⟨w, H1, I', ru, h F1 H1 w st (KRep.frz rw')⟩
    · rw [if_neg hf] at h
      exact h.elim
  | none =>
    rw [q] at h
    dsimp only at h
    cases q2 : lookP G c f with
    | none => rw [q2] at h; exact h.elim
    | some i =>
      rw [q2] at h
      dsimp only at h
      by_cases nb : kx = .bor
      · rw [if_pos nb] at h; exact h.elim
      · rw [if_neg nb] at h
        obtain ⟨hc, pr, hpr⟩ := clsF_p cf q2
        obtain ⟨F3, s3, e3, r3⟩ := kr.fix st nb
        obtain ⟨mA, O, _, _, _, _⟩ := ins_get I1.hok hp
        obtain ⟨od, J, _⟩ := O.look
        obtain ⟨rest, hrec⟩ := hpr.rec_
        have I2 := I1.tok (s1.toks + 1)
        have hcl : (PySem.W.clsIn X.K (L.ct c)).isSome = true := by
          obtain ⟨cd, hc', _⟩ := PySem.W.any_some hc.hd
          rw [hc']
          rfl
        obtain ⟨r, qr⟩ : ∃ r, cl i [.ins c fs] = .ok r := by
          cases z : cl i [.ins c fs] with
          | ok r => exact ⟨r, rfl⟩
          | er _ => rw [z] at h; exact h.elim
          | bad => rw [z] at h; exact h.elim
        rw [qr] at h
        have hcall := g.calln i X.A.in1 (.inr rfl) pins { s1 with toks := s1.toks + 1 } σ F3 H1 [.ref p] [.ref p] [.ins c fs] r Q I2 (.cons rfl .nil) s3.in_ (.cons r3 .nil) qr (Post.step s3 h)
        refine PySem.W.get_bind I1.kIn J (PySem.W.plainGet_of (hc.get f)).1 (PySem.W.findObj_data hcl hpr.at_ hpr.get hpr.tak) (PySem.W.plainGet_of (hc.get f)).2 (wpAny_call (PySem.W.prop_get (s := { s1 with toks := s1.toks + 1 }) I1.kIn hrec ?_))
        refine codeAny_mono hcall fun r s' hq => ?_
        cases r with
        | error er => exact False.elim hq
        | ok fl =>
          cases fl with
          | ret u =>
            obtain ⟨v', H', I3, rv, q3⟩ := hq
            show wpAny _ _ (handedOut u) _ _ _
            rw [PySem.W.handedOut_of (handed_of rv)]
            exact wpAny_pure ⟨v', H', I3, rv, q3⟩
          | next => exact False.elim hq
          | brk => exact False.elim hq
          | cont => exact False.elim hq
/-! f(..) -/
open Classical in
/-- all that is there, but tables -/
noncomputable def noT (H : Hp) : Hp := fun a => if ∃ ps, H a = some (.tbl ps) then none else H a
theorem noT_in {H : Hp} (t : LamX.Tabs Tt.T H) : In (noT H) H := ⟨fun a o q => by
  unfold noT at q
  split at q
  · cases q
  · exact q, fun a ps q => by
  unfold noT at q
  split at q
  · cases q
  · rename_i z; exact z ⟨ps, q⟩, t⟩
theorem noT_ex {F H : Hp} (i : In F H) : Ex F (noT H) := fun a o q => by
  unfold noT
  split
  · rename_i z
    obtain ⟨ps, z⟩ := z
    have := i _ _ q
    rw [z] at this
    cases this
    exact (i.nt a ps q).elim
  · exact i _ _ q
theorem AVal.repN {K : PySem.W.Frag} {ct : CT} {F H : Hp} {d : D} {v : V} (i : In F H) (h : AVal K ct F H d v) : Rep K ct (noT H) d v := by
  rcases h with h | ⟨p, e, n, o⟩
  · exact Rep.mono (noT_ex i) h
  · obtain ⟨u, hu, nt, r⟩ := o.obj
    subst e
    refine r (noT H) (noT_ex i) ?_
    unfold noT
    split
    · rename_i z
      obtain ⟨ps, z⟩ := z
      rw [hu] at z
      exact (nt ps (Option.some.inj z)).elim
    · exact hu
theorem AVals.repsN {K : PySem.W.Frag} {ct : CT} {F H : Hp} (i : In F H) : ∀ {l : List D} {ws : List V}, AVals K ct F H l ws → Reps K ct (noT H) l ws
  | _, _, .nil => .nil
  | _, _, .cons h r => .cons (h.repN i) (AVals.repsN i r)
theorem flat_no {K : PySem.W.Frag} {ct : CT} {F H F' H' : Hp} {d : D} {v : V} {k : Kd} (hf : flatD d = true) (h : KRep K ct F H F' H' k d v) : ∀ F2, Rep K ct F2 d v := fun F2 => flat_any hf h.1.any
theorem call_post {F H F1 H1 : Hp} {l : List D} {k : Kd} {f : Nat} {vs : List V} {Er : XK} {Q : VK} (st : Step F H F1 H1) (av : AVals X.K L.ct F1 H1 l vs) (rv : k ≠ .bor → Reps X.K L.ct F1 l vs) (h : Post X.K L.ct F H Er Q (callB cl k f l)) :
    ∃ F2, In F2 H1 ∧ Reps X.K L.ct F2 l vs ∧ Post X.K L.ct F2 H1 Er Q (cl f l) := by
  have gen : k ≠ .bor → Post X.K L.ct F H Er Q (cl f l) → ∃ F2, In F2 H1 ∧ Reps X.K L.ct F2 l vs ∧ Post X.K L.ct F2 H1 Er Q (cl f l) := fun nb h => ⟨F1, st.in_, rv nb, Post.step st h⟩
  cases k with
  | frz => exact gen (by decide) h
  | fr => exact gen (by decide) h
  | bor =>
    refine ⟨noT H1, noT_in st.in_.tb, av.repsN st.in_, ?_⟩
    unfold callB at h
    have h := Post.step st h
    cases q : cl f l with
    | er x => rw [q] at h; exact h
    | bad => rw [q] at h; exact h
    | ok x =>
      rw [q] at h
      simp only [Res.bind] at h
      by_cases hf : flatD x.1 = true
      · rw [if_pos hf] at h
        intro F' H' v s' kr
        have e1 := flat_val (F' := F') (H' := H') hf kr.1
        refine h F1 H' v ⟨Ex.refl _, s'.hp, st.in_.fwd s'.hp, fun _ z => .inl z⟩ ?_
        rw [e1]
        exact KRep.frz (flat_any hf kr.1.any)
      · rw [if_neg hf] at h
        exact h.elim
theorem s_call (g : Good X L cl mk E) {x : Str} {p pos : Pos} {e : Expr} {es : List Expr} {m : M} {f : Nat} (hg : Gl X x) (hm : X.mg x = some (.ref (L.fa f))) (hk : PySem.W.keepIn X.K (.ref (L.fa f)) = true) (hd : (x == ("__debug__" : Str)) = false) (hs : (e :: es).all noStar = true)
    (ha : PA X (e :: es) (rdA X.K L.ct G cl mk E m)) : PE X (.Call (.Name x p) (e :: es) [] pos) (rd X.K L.ct G cl mk E (.call f m)) := by
  obtain ⟨h1, h2⟩ := Bool.and_eq_true_iff.mp (List.all_cons ▸ hs)
  refine ⟨fun pins s σ H Q I h => ?_⟩
  obtain ⟨F, e', o', h⟩ := h
  unfold evE at h
  refine wpAny_Call_Name_kw (ld_glob I hg hm ?_ hd)
  refine PySem.W.callWith_K (h₀ := X.base) I.ok.mod.kin hk (thn (ha.run pos pins s σ H _ I (rdA1 (R := fun vs H2 => ∃ F2, ∃ x : D × Kd, Step F H F2 H2 ∧ AVals X.K L.ct F2 H2 (itemsOf x.1) vs ∧ (x.2 ≠ .bor → Reps X.K L.ct F2 (itemsOf x.1) vs) ∧ Post X.K L.ct F H (E σ) Q (callB cl x.2 f (itemsOf x.1))) o' h fun F1 H1 x vs st av rv _ h => ⟨F1, x, st, av, rv, h⟩))
    fun us s1 ⟨vs, H1, I1, r, F1, x, st, av, rv, h⟩ => ⟨I1.kIn, ?_⟩) (star_cons h1) (star_any h2)
  obtain ⟨F2, i2, r2, p2⟩ := call_post st av rv h
  exact (g.call f).wp I1 r i2 r2 p2
theorem s_call0 (g : Good X L cl mk E) {x : Str} {p pos : Pos} {f : Nat} (hg : Gl X x) (hm : X.mg x = some (.ref (L.fa f))) (hk : PySem.W.keepIn X.K (.ref (L.fa f)) = true) (hd : (x == ("__debug__" : Str)) = false) :
    PE X (.Call (.Name x p) [] [] pos) (rd X.K L.ct G cl mk E (.call f .nil)) := by
  refine ⟨fun pins s σ H Q I h => ?_⟩
  obtain ⟨F, e', o', h⟩ := h
  unfold evE at h
  refine wpAny_Call_Name_kw (ld_glob I hg hm ?_ hd)
  exact PySem.W.callWith_K0 I.kIn hk ((g.call f).wp (us := []) (vs := []) I Paired.nil o'.in_ Reps.nil h)
theorem s_make (g : Good X L cl mk E) {x : Str} {p pos : Pos} {e : Expr} {es : List Expr} {m : M} {c : Nat} (hg : Gl X x) (hm : X.mg x = some (.ref (L.ct c))) (hk : PySem.W.keepIn X.K (.ref (L.ct c)) = true) (hd : (x == ("__debug__" : Str)) = false) (hs : (e :: es).all noStar = true)
    (ha : PA X (e :: es) (rdA X.K L.ct G cl mk E m)) : PE X (.Call (.Name x p) (e :: es) [] pos) (rd X.K L.ct G cl mk E (.make c m)) := by
  obtain ⟨h1, h2⟩ := Bool.and_eq_true_iff.mp (List.all_cons ▸ hs)
  refine ⟨fun pins s σ H Q I h => ?_⟩
  obtain ⟨F, e', o', h⟩ := h
  unfold evE at h
  refine wpAny_Call_Name_kw (ld_glob I hg hm ?_ hd)
  refine PySem.W.callWith_K (h₀ := X.base) I.ok.mod.kin hk (thn (ha.run pos pins s σ H _ I (rdA1 (R := fun vs H2 => ∃ F2, ∃ x : D × Kd, Step F H F2 H2 ∧ (x.2 ≠ .bor → Reps X.K L.ct F2 (itemsOf x.1) vs) ∧ Post X.K L.ct F H (E σ) Q (if x.2 = .bor then .bad else (mk c (itemsOf x.1)).bind fun d => .ok (d, .frz))) o' h fun F1 H1 x vs st av rv _ h => ⟨F1, x, st, rv, h⟩))
    fun us s1 ⟨vs, H1, I1, r, F1, x, st, rv, h⟩ => ⟨I1.kIn, ?_⟩) (star_cons h1) (star_any h2)
  by_cases nb : x.2 = .bor
  · rw [if_pos nb] at h; exact h.elim
  · rw [if_neg nb] at h
    exact g.make c pins s1 σ F1 H1 vs us (itemsOf x.1) Q I1 r st.in_ (rv nb) (Post.step st h)
theorem s_meth (g : Good X L cl mk E) (cf : ∀ c k, G.cls[c]? = some k → ClsF X.K L c k) {a : Expr} {name : Str} {apos pos : Pos} {e : Expr} {es : List Expr} {m n : M} (hb : baseOk a = true) (hl : (apos.endLine == pos.line) = true) (hs : (e :: es).all noStar = true) (hn : (e :: es).length < 30)
    (ha : PE X a (rd X.K L.ct G cl mk E m)) (has : PA X (e :: es) (rdA X.K L.ct G cl mk E n)) : PE X (.Call (.Attribute a name apos) (e :: es) [] pos) (rd X.K L.ct G cl mk E (.meth m name n)) := by
  refine ⟨fun pins s σ H Q I h => ?_⟩
  obtain ⟨F, e', o', h⟩ := h
  unfold evE at h
  refine PySem.W.methodCall_KW (thn (ha.run pins s σ H _ I (rd1 (R := fun v H2 => ∃ F2, ∃ x : D × Kd, Step F H F2 H2 ∧ KRep X.K L.ct F H F2 H2 x.2 x.1 v ∧ SOk X.K L.ct F2 H2 σ e' ∧ Post X.K L.ct F H (E σ) Q (match x.1 with
    | .ins c fs => match fs.lookup name, lookC G c name with
      | none, some f => if x.2 = .bor then .bad else (evE G cl mk n e').bind fun y => if y.2 = .bor then .bad else cl f (x.1 :: itemsOf y.1)
      | _, _ => .bad
    | _ => .bad)) o' h fun F1 H1 x v st kr o1 h => ⟨F1, x, st, kr, o1, h⟩)) fun u s1 ⟨v, H1, I1, r1, F1, x, st, kr, o1, h⟩ => ?_) (meth_eval hb hl hs hn)
  obtain ⟨x, kx⟩ := x
  dsimp only at h kr
  cases x <;> first | exact h.elim | skip
  rename_i c fs
  dsimp only at h
  obtain ⟨p, dx, ws, rfl, hp, rf⟩ := kr.1.any.ins st.in_
  cases r1
  cases q : fs.lookup name with
  | some d => rw [q] at h; exact h.elim
  | none =>
    cases q2 : lookC G c name with
    | none => rw [q, q2] at h; exact h.elim
    | some i =>
      rw [q, q2] at h
      dsimp only at h
      by_cases nb : kx = .bor
      · rw [if_pos nb] at h; exact h.elim
      · rw [if_neg nb] at h
        obtain ⟨hc, hm⟩ := clsF_m cf q2
        obtain ⟨F3, s3, e3, r3⟩ := kr.fix st nb
        have o3 := o'.step s3
        refine getmeth_ok I1 hp hc hm (rf.look_none q) ?_
        have hA : rdA X.K L.ct G cl mk E n σ H1 fun vs H2 => ∃ F4, ∃ y : D × Kd, Step F3 H1 F4 H2 ∧ (y.2 ≠ .bor → Reps X.K L.ct F4 (itemsOf y.1) vs) ∧ Post X.K L.ct F3 H1 (E σ) Q (if y.2 = .bor then .bad else cl i (.ins c fs :: itemsOf y.1)) :=
          rdA1 o3 (Post.step s3 h) fun F4 H2 y vs s4 _ rv _ h4 => ⟨F4, y, s4, rv, h4⟩
        obtain ⟨h1, h2⟩ := Bool.and_eq_true_iff.mp (List.all_cons ▸ hs)
        refine PySem.W.callWith_K (first := [.ref p]) (h₀ := X.base) I.ok.mod.kin hm.kp (thn (has.run pos pins s1 σ H1 _ I1 hA) fun us s2 ⟨vs, H2, I2, r, F4, y, s4, rv, h4⟩ => ⟨I2.kIn, ?_⟩) (star_cons h1) (star_any h2)
        by_cases nb2 : y.2 = .bor
        · rw [if_pos nb2] at h4; exact h4.elim
        · rw [if_neg nb2] at h4
          exact (g.call i).wp (us := .ref p :: us) (vs := .ref p :: vs) I2 (.cons rfl r) s4.in_ (.cons (Rep.mono s4.fz r3) (rv nb2)) (Post.step s4 h4)
theorem s_meth0 (g : Good X L cl mk E) (cf : ∀ c k, G.cls[c]? = some k → ClsF X.K L c k) {a : Expr} {name : Str} {apos pos : Pos} {m : M} (hb : baseOk a = true) (hl : (apos.endLine == pos.line) = true) 
    (ha : PE X a (rd X.K L.ct G cl mk E m)) : PE X (.Call (.Attribute a name apos) [] [] pos) (rd X.K L.ct G cl mk E (.meth m name .nil)) := by
  refine ⟨fun pins s σ H Q I h => ?_⟩
  obtain ⟨F, e', o', h⟩ := h
  unfold evE at h
  refine PySem.W.methodCall_KW (thn (ha.run pins s σ H _ I (rd1 (R := fun v H2 => ∃ F2, ∃ x : D × Kd, Step F H F2 H2 ∧ KRep X.K L.ct F H F2 H2 x.2 x.1 v ∧ SOk X.K L.ct F2 H2 σ e' ∧ Post X.K L.ct F H (E σ) Q (match x.1 with
    | .ins c fs => match fs.lookup name, lookC G c name with
      | none, some f => if x.2 = .bor then .bad else (evE G cl mk .nil e').bind fun y => if y.2 = .bor then .bad else cl f (x.1 :: itemsOf y.1)
      | _, _ => .bad
    | _ => .bad)) o' h fun F1 H1 x v st kr o1 h => ⟨F1, x, st, kr, o1, h⟩)) fun u s1 ⟨v, H1, I1, r1, F1, x, st, kr, o1, h⟩ => ?_) (meth_eval (es := []) hb hl rfl (by decide))
  obtain ⟨x, kx⟩ := x
  dsimp only at h kr
  cases x <;> first | exact h.elim | skip
  rename_i c fs
  dsimp only at h
  obtain ⟨p, dx, ws, rfl, hp, rf⟩ := kr.1.any.ins st.in_
  cases r1
  cases q : fs.lookup name with
  | some d => rw [q] at h; exact h.elim
  | none =>
    cases q2 : lookC G c name with
    | none => rw [q, q2] at h; exact h.elim
    | some i =>
      rw [q, q2] at h
      dsimp only at h
      by_cases nb : kx = .bor
      · rw [if_pos nb] at h; exact h.elim
      · rw [if_neg nb] at h
        obtain ⟨hc, hm⟩ := clsF_m cf q2
        obtain ⟨F3, s3, e3, r3⟩ := kr.fix st nb
        have o3 := o'.step s3
        refine getmeth_ok I1 hp hc hm (rf.look_none q) ?_
        have h := Post.step s3 h
        exact PySem.W.callWith_K0 (first := [.ref p]) I1.kIn hm.kp ((g.call i).wp (us := [.ref p]) (vs := [.ref p]) I1 (Paired.cons rfl Paired.nil) s3.in_ (.cons r3 .nil) h)
end
end Dv
end
section
set_option Elab.async false
set_option linter.all false
set_option maxRecDepth 100000
set_option maxHeartbeats 4000000
namespace Dv
open PySem PySem.Spec PyProof.Rows L2
variable [Tt]
/-! ### built-ins by name -/
def btName : Bt → Str
  | .len => "len" | .int => "int" | .sum => "sum" | .tuple => "tuple" | .list => "list" | .sorted => "sorted" | .any => "any" | .all => "all" | .max => "max" | .min => "min" | .sset => "sorted"
def btVal : Bt → Value
  | .len => .builtin "len" | .int => .type "int" | .sum => .builtin "sum" | .tuple => .type "tuple" | .list => .type "list" | .sorted => .builtin "sorted" | .any => .builtin "any" | .all => .builtin "all" | .max => .builtin "max" | .min => .builtin "min" | .sset => .builtin "sorted"
theorem bt_boot (b : Bt) : bootBuiltins (btName b) = some (btVal b) := by
  cases b <;> decide +kernel
theorem bt_ne (b : Bt) : btName b ≠ "__name__" ∧ (btName b == ("__debug__" : Str)) = false := by
  cases b <;> decide +kernel
theorem bt_cases (b : Bt) : (∃ id, btVal b = .builtin id) ∨ (∃ T, btVal b = .type T) := by
  cases b <;> first | exact .inl ⟨_, rfl⟩ | exact .inr ⟨_, rfl⟩
theorem ints_of {K : PySem.W.Frag} {ct : CT} {F : Hp} : ∀ {l : List D} {ws : List V} {ns : List Int}, l.mapM intOf = some ns → Reps K ct F l ws → ws = ns.map V.int
  | [], _, _, e, .nil => by cases e; rfl
  | d :: l, _, _, e, .cons h r => by
    rw [List.mapM_cons] at e
    cases q : intOf d with
    | none => rw [q] at e; cases e
    | some i =>
      rw [q] at e
      cases q2 : l.mapM intOf with
      | none => rw [q2] at e; cases e
      | some ns =>
        rw [q2] at e
        cases e
        have := ints_of q2 r
        subst this
        cases d <;> first | (cases q; cases h; rfl) | cases q
theorem bls_of {K : PySem.W.Frag} {ct : CT} {F : Hp} : ∀ {l : List D} {ws : List V} {bs : List Bool}, l.mapM blOf = some bs → Reps K ct F l ws → ws = bs.map V.bl
  | [], _, _, e, .nil => by cases e; rfl
  | d :: l, _, _, e, .cons h r => by
    rw [List.mapM_cons] at e
    cases q : blOf d with
    | none => rw [q] at e; cases e
    | some i =>
      rw [q] at e
      cases q2 : l.mapM blOf with
      | none => rw [q2] at e; cases e
      | some ns =>
        rw [q2] at e
        cases e
        have := bls_of q2 r
        subst this
        cases d <;> first | (cases q; cases h; rfl) | cases q
theorem insI_perm (i : Int) : ∀ l : List Int, (insI i l).Perm (i :: l)
  | [] => .refl _
  | j :: r => by
    unfold insI
    by_cases h : i ≤ j
    · rw [if_pos h]
    · rw [if_neg h]
      exact ((insI_perm i r).cons j).trans (.swap i j r)
theorem isort_perm : ∀ l : List Int, (isort l).Perm l
  | [] => .refl _
  | i :: r => (insI_perm i _).trans ((isort_perm r).cons i)
theorem insI_sorted (i : Int) : ∀ l : List Int, l.Pairwise (· ≤ ·) → (insI i l).Pairwise (· ≤ ·)
  | [], _ => by unfold insI; exact List.pairwise_singleton _ _
  | j :: r, h => by
    obtain ⟨h1, h2⟩ := List.pairwise_cons.mp h
    unfold insI
    by_cases q : i ≤ j
    · rw [if_pos q]
      exact List.pairwise_cons.mpr ⟨fun x hx => by
        rcases List.mem_cons.mp hx with e | hx
        · rw [e]; exact q
        · exact Int.le_trans q (h1 x hx), h⟩
    · rw [if_neg q]
      refine List.pairwise_cons.mpr ⟨fun x hx => ?_, insI_sorted i r h2⟩
      rcases List.mem_cons.mp ((insI_perm i r).mem_iff.mp hx) with e | hx
      · rw [e]; omega
      · exact h1 x hx
theorem isort_sorted : ∀ l : List Int, (isort l).Pairwise (· ≤ ·)
  | [] => .nil
  | i :: r => insI_sorted i _ (isort_sorted r)
section
variable {X : Cx} {L : Lk} {G : Gm} {cl : Nat → List D → Res (D × Kd)} {mk : Nat → List D → Res D} {E : L2.St → XK}
theorem AVals.one {K : PySem.W.Frag} {ct : CT} {F H : Hp} {d : D} {vs : List V} (h : AVals K ct F H [d] vs) : ∃ v, vs = [v] ∧ AVal K ct F H d v := by
  cases h with
  | cons a r => cases r; exact ⟨_, rfl, a⟩
theorem AVals.two {K : PySem.W.Frag} {ct : CT} {F H : Hp} {d e : D} {vs : List V} (h : AVals K ct F H [d, e] vs) : ∃ v u, vs = [v, u] ∧ AVal K ct F H d v ∧ AVal K ct F H e u := by
  cases h with
  | cons a r => cases r with
    | cons b r => cases r; exact ⟨_, _, rfl, a, b⟩
theorem bt_run (calm : X.calm = true) {b : Bt} {F H F2 H2 : Hp} {ds : List D} {vs : List V} {us : List Value} {pins : List (Addr × Obj)} {s : Shared} {σ : L2.St} {Q : VK} {Er : XK} (hb : b ≠ .sset) (I : Inv X pins σ H2 s) (rv : Vals vs us) (st : Step F H F2 H2) (av : AVals X.K L.ct F2 H2 ds vs)
    (h : Post X.K L.ct F H Er Q (ofO (bltD b ds))) : wpAny (model X.prog X.w) X.A (PySem.call (btVal b) us) (EP X pins σ Q) X.xe s := by
  have fin : ∀ {d : D} {v : V}, Post X.K L.ct F H Er Q (ofO (some (d, Kd.frz))) → (∀ F', Rep X.K L.ct F' d v) → Q v H2 := fun h r => post_int st h r
  unfold bltD at h
  split at h
  · obtain ⟨v, rfl, a⟩ := av.one
    obtain rfl := a.str
    split at h
    · rename_i hz
      exact call_len_str pins s σ H2 _ us Q I rv ⟨_, rfl, hz, fin h fun _ => .int⟩
    · exact h.elim
  · obtain ⟨v, rfl, a⟩ := av.one
    obtain ⟨p, ws, rfl, ha, ra⟩ := a.tup
    exact call_len_seq pins s σ H2 _ us Q I rv ⟨p, ws, rfl, .inr (st.in_.st ha), by rw [← ra.length]; exact fin h fun _ => .int⟩
  · obtain ⟨v, rfl, a⟩ := av.one
    obtain ⟨p, ws, rfl, ha, ra⟩ := a.lst st.in_
    exact call_len_seq pins s σ H2 _ us Q I rv ⟨p, ws, rfl, .inl (.of ha), by rw [← ra.length]; exact fin h fun _ => .int⟩
  · obtain ⟨v, rfl, a⟩ := av.one
    obtain ⟨p, rfl, ha⟩ := a.scr
    exact call_len_seq pins s σ H2 _ us Q I rv ⟨p, _, rfl, .inl (st.in_.sl ha), by rw [List.length_map]; exact fin h fun _ => .int⟩
  · obtain ⟨v, rfl, a⟩ := av.one
    obtain ⟨p, rfl, ha⟩ := a.scr
    exact cr_sum calm pins s σ H2 _ us Q I rv ⟨p, _, rfl, st.in_.sl ha, fin h fun _ => .int⟩
  · obtain ⟨v, rfl, a⟩ := av.one
    obtain ⟨p, ws, rfl, ha, ra⟩ := a.dic st.in_
    have e : ∀ {l : List (Key × D)} {ws : List (Key × V)}, RepK X.K L.ct F2 l ws → l.length = ws.length := by
      intro l ws r
      induction l generalizing ws with
      | nil => cases r; rfl
      | cons x l ih => cases r with
        | cons h r => rw [List.length_cons, List.length_cons, ih r]
    exact call_lenD pins s σ H2 _ us Q I rv ⟨p, ws, rfl, ha, by rw [← e ra]; exact fin h fun _ => .int⟩
  · obtain ⟨v, rfl, a⟩ := av.one
    obtain rfl := a.int
    exact call_int1 pins s σ H2 _ us Q I rv (.inl ⟨_, rfl, fin h fun _ => .int⟩)
  · obtain ⟨v, rfl, a⟩ := av.one
    obtain rfl := a.bl
    exact call_int1 pins s σ H2 _ us Q I rv (.inr ⟨_, rfl, fin h fun _ => .int⟩)
  · obtain ⟨v, rfl, a⟩ := av.one
    obtain ⟨p, ws, rfl, ha, ra⟩ := a.lst st.in_
    split at h
    · rename_i ns hn
      have := ints_of hn ra
      subst this
      exact cr_sum calm pins s σ H2 _ us Q I rv ⟨p, ns, rfl, .of ha, fin h fun _ => .int⟩
    · exact h.elim
  · obtain ⟨v, rfl, a⟩ := av.one
    obtain ⟨p, ws, rfl, ha, ra⟩ := a.lst st.in_
    exact call_tuple_of pins s σ H2 _ us Q I rv ⟨p, ws, rfl, .inl ⟨.of ha, fun l hl => post_tup st.in_ (Post.step st h) hl ra⟩⟩
  · obtain ⟨v, rfl, a⟩ := av.one
    obtain ⟨p, ws, rfl, ha, ra⟩ := a.tup
    exact call_tuple_of pins s σ H2 _ us Q I rv ⟨p, ws, rfl, .inr ⟨st.in_.st ha, h F2 H2 _ st (KRep.frz (.tup ha ra))⟩⟩
  · obtain ⟨v, rfl, a⟩ := av.one
    obtain ⟨p, ws, rfl, ha, ra⟩ := a.lst st.in_
    exact call_list_of pins s σ H2 _ us Q I rv ⟨p, ws, rfl, .inl (.of ha), fun l hl => post_new st.in_ (Post.step st h) hl ⟨_, upd_same, ra⟩⟩
  · obtain ⟨v, rfl, a⟩ := av.one
    obtain ⟨p, ws, rfl, ha, ra⟩ := a.tup
    exact call_list_of pins s σ H2 _ us Q I rv ⟨p, ws, rfl, .inr (st.in_.st ha), fun l hl => post_new st.in_ (Post.step st h) hl ⟨_, upd_same, ra⟩⟩
  · obtain ⟨v, rfl, a⟩ := av.one
    obtain ⟨p, ws, rfl, ha, ra⟩ := a.lst st.in_
    split at h
    · rename_i ns hn
      have := ints_of hn ra
      subst this
      split at h
      · rename_i h64
        refine cr_sorted pins s σ H2 _ us Q I rv ⟨p, ns, rfl, .of ha, h64, fun ns' l hp hs hl => ?_⟩
        have e : ns' = isort ns := PySem.W.ksm_same (hp.trans (isort_perm ns).symm) hs (isort_sorted ns)
        subst e
        exact post_new st.in_ (Post.step st h) hl ⟨_, upd_same, ints_rep _⟩
      · exact h.elim
    · exact h.elim
  · exact (hb rfl).elim
  · obtain ⟨v, rfl, a⟩ := av.one
    obtain ⟨p, ws, rfl, ha, ra⟩ := a.lst st.in_
    split at h
    · rename_i ns hn
      have := bls_of hn ra
      subst this
      exact cr_any calm pins s σ H2 _ us Q I rv ⟨p, ns, rfl, .of ha, fin h fun _ => .bl⟩
    · exact h.elim
  · obtain ⟨v, rfl, a⟩ := av.one
    obtain ⟨p, ws, rfl, ha, ra⟩ := a.lst st.in_
    split at h
    · rename_i ns hn
      have := bls_of hn ra
      subst this
      exact cr_all calm pins s σ H2 _ us Q I rv ⟨p, ns, rfl, .of ha, fin h fun _ => .bl⟩
    · exact h.elim
  · obtain ⟨v, u, rfl, a, b⟩ := av.two
    obtain rfl := a.int
    obtain rfl := b.int
    exact call_max2 calm pins s σ H2 _ us Q I rv ⟨_, _, rfl, fin (v := .int _) h fun _ => .int⟩
  · obtain ⟨v, u, rfl, a, b⟩ := av.two
    obtain rfl := a.int
    obtain rfl := b.int
    exact call_min2 calm pins s σ H2 _ us Q I rv ⟨_, _, rfl, fin (v := .int _) h fun _ => .int⟩
  · exact h.elim
/-- len of an own class's -/
def OwnL (X : Cx) (L : Lk) (G : Gm) (cl : Nat → List D → Res (D × Kd)) (E : L2.St → XK) : Prop :=
  ∀ (pins : List (Addr × Obj)) (s : Shared) (σ : L2.St) (F H : Hp) (c : Nat) (fs : List (Str × D)) (v : V) (vv : Value) (Q : VK), Inv X pins σ H s → RelV v vv → In F H → Rep X.K L.ct F (.ins c fs) v →
    Post X.K L.ct F H (E σ) Q (bltM G cl .len true [.ins c fs]) → wpAny (model X.prog X.w) X.A (PySem.call (.builtin "len") [vv]) (EP X pins σ Q) X.xe s
def btTy : Bt → Bool
  | .int => true | .tuple => true | .list => true
  | _ => false
theorem s_blt (g : Good X L cl mk E) (ow : OwnL X L G cl E) {b : Bt} {p pos : Pos} {e : Expr} {es : List Expr} {m : M} (hb : b ≠ .sset) (hg : Gl X (btName b)) (hm : X.mg (btName b) = none) (hs : (e :: es).all noStar = true)
    (ha : PA X (e :: es) (rdA X.K L.ct G cl mk E m)) : PE X (.Call (.Name (btName b) p) (e :: es) [] pos) (rd X.K L.ct G cl mk E (.blt b m)) := by
  obtain ⟨h1, h2⟩ := Bool.and_eq_true_iff.mp (List.all_cons ▸ hs)
  have run : ∀ (pins : List (Addr × Obj)) (s : Shared) (σ : L2.St) (F H F2 H2 : Hp) (x : D × Kd) (vs : List V) (us : List Value) (Q : VK), Inv X pins σ H2 s → Vals vs us → Step F H F2 H2 → AVals X.K L.ct F2 H2 (itemsOf x.1) vs → (x.2 ≠ .bor → Reps X.K L.ct F2 (itemsOf x.1) vs) →
      Post X.K L.ct F H (E σ) Q (bltM G cl b (nbor x.2 x.2) (itemsOf x.1)) → wpAny (model X.prog X.w) X.A (PySem.call (btVal b) us) (EP X pins σ Q) X.xe s := by
    intro pins s σ F H F2 H2 x vs us Q I rv st av rs h
    by_cases hc : b = .len ∧ nbor x.2 x.2 = true ∧ ∃ c fs, itemsOf x.1 = [.ins c fs]
    · obtain ⟨rfl, hn, c, fs, ei⟩ := hc
      rw [ei, hn] at h
      rw [ei] at rs
      have nb : x.2 ≠ .bor := fun z => by rw [z] at hn; cases hn
      have r := rs nb
      cases r with
      | cons r r' =>
        cases r'
        cases rv with
        | cons q q' =>
          cases q'
          exact ow pins s σ F2 H2 c fs _ _ Q I q st.in_ r (Post.step st h)
    · have e : bltM G cl b (nbor x.2 x.2) (itemsOf x.1) = ofO (bltD b (itemsOf x.1)) := by
        unfold bltM
        split
        · rename_i c fs hn ei
          exact (hc ⟨rfl, hn, c, fs, ei⟩).elim
        · rfl
      rw [e] at h
      exact bt_run g.calm hb I rv st av h
  refine ⟨fun pins s σ H Q I h => ?_⟩
  obtain ⟨F, e', o', h⟩ := h
  unfold evE at h
  have hA := ha.run pos pins s σ H _ I (rdA1 (R := fun vs H2 => ∃ F2, ∃ x : D × Kd, Step F H F2 H2 ∧ AVals X.K L.ct F2 H2 (itemsOf x.1) vs ∧ (x.2 ≠ .bor → Reps X.K L.ct F2 (itemsOf x.1) vs) ∧ Post X.K L.ct F H (E σ) Q (bltM G cl b (nbor x.2 x.2) (itemsOf x.1))) o' h fun F1 H1 x vs st av rv _ h => ⟨F1, x, st, av, rv, h⟩)
  refine wpAny_Call_Name_kw (ld_blt I hg hm (bt_boot b) ?_ (bt_ne b).1 (bt_ne b).2)
  rcases bt_cases b with ⟨id, ev⟩ | ⟨T, ev⟩
  · rw [ev] at run ⊢
    exact PyProof.Rows.callWith_builtin1 (thn hA fun us s1 ⟨vs, H1, I1, r1, F1, x, st, av, rv, h⟩ => run pins s1 σ F H F1 H1 x vs us Q I1 r1 st av rv h) (star_cons h1) (star_any h2)
  · rw [ev] at run ⊢
    exact PyProof.Rows.callWith_type1 (thn hA fun us s1 ⟨vs, H1, I1, r1, F1, x, st, av, rv, h⟩ => run pins s1 σ F H F1 H1 x vs us Q I1 r1 st av rv h) (star_cons h1) (star_any h2)
end
end Dv
end
section
set_option Elab.async false
set_option linter.all false
set_option maxRecDepth 100000
set_option maxHeartbeats 4000000
namespace Dv
open PySem PySem.Spec PyProof.Rows L2
variable [Tt]
section
variable {X : Cx} {L : Lk} {G : Gm} {cl : Nat → List D → Res (D × Kd)} {mk : Nat → List D → Res D} {E : L2.St → XK}
/-! ### module constants -/
structure ConF (X : Cx) (L : Lk) (x : Str) (d : D) : Prop where
  at_ : ∃ u v, X.mg x = some u ∧ RelV v u ∧ ∀ F, Rep X.K L.ct F d v
theorem s_gc (cf : ∀ x d, G.consts.lookup x = some d → ConF X L x d) {x : Str} {pos : Pos} (hg : Gl X x) (hd : (x == ("__debug__" : Str)) = false) : PE X (.Name x pos) (rd X.K L.ct G cl mk E (.gc x)) := by
  refine ⟨fun pins s σ H Q I h => ?_⟩
  obtain ⟨F, e, o, h⟩ := h
  unfold evE at h
  cases q : G.consts.lookup x with
  | none => rw [q] at h; exact h.elim
  | some d =>
    rw [q] at h
    obtain ⟨u, v, hm, r, rp⟩ := (cf x d q).at_
    exact ld_glob I hg hm ⟨v, H, I, r, post_frz o.in_ h (rp F)⟩ hd
structure TabF (X : Cx) (L : Lk) (x : Str) (l : List (Str × D)) : Prop where
  at_ : ∃ d es n, X.mg x = some (.ref d) ∧ KDict X.K X.w d es n ∧ ∀ z, (∀ dz, l.lookup z = some dz → ∃ u v, PySem.W.nsIn X.K d z = some (some u) ∧ RelV v u ∧ ∀ F, Rep X.K L.ct F dz v) ∧ (l.lookup z = none → PySem.W.nsIn X.K d z = some none)
theorem s_ixg (tf : ∀ x l, G.tabs.lookup x = some l → TabF X L x l) {x : Str} {p pos : Pos} {b : Expr} {n : M} (hg : Gl X x) (hd : (x == ("__debug__" : Str)) = false) (hs : noSlice b = true) (hb : PE X b (rd X.K L.ct G cl mk E n)) : PE X (.Subscript (.Name x p) b pos) (rd X.K L.ct G cl mk E (.ixg x n)) := by
  refine ⟨fun pins s σ H Q I h => ?_⟩
  obtain ⟨F, e, o, h⟩ := h
  unfold evE at h
  cases q : G.tabs.lookup x with
  | none => rw [q] at h; exact h.elim
  | some l =>
    rw [q] at h
    obtain ⟨d, es, k, hm, kd, hz⟩ := (tf x l q).at_
    refine Subscript_ (ld_glob I hg hm (thn (hb.run pins s σ H _ I (rd1 (R := fun u H2 => ∃ F2, ∃ y : D × Kd, Step F H F2 H2 ∧ AVal X.K L.ct F2 H2 y.1 u ∧ Post X.K L.ct F H (E σ) Q (match y.1 with
      | .str z => (match l.lookup z with | some d => .ok (d, .frz) | none => .bad)
      | _ => .bad)) o h fun F1 H1 y u st kr _ h => ⟨F1, y, st, kr.1.any, h⟩)) fun uu s2 ⟨u, H2, I2, ru, F2, y, st, av, h⟩ => ?_) hd)
    obtain ⟨y, ky⟩ := y
    dsimp only at h av
    cases y <;> first | exact h.elim | skip
    rename_i z
    obtain rfl := av.str
    dsimp only at h
    cases q2 : l.lookup z with
    | none => rw [q2] at h; exact h.elim
    | some dz =>
      rw [q2] at h
      obtain ⟨u0, v0, e1, r0, rp⟩ := (hz z).1 dz q2
      exact tail_any (kd_type kd I2) PySem.F.slot_dict_getitem.lookup (op_item_kd kd pins s2 σ H2 (.ref d) (.str z) (.ref d) uu Q I2 rfl ru ⟨z, u0, v0, rfl, rfl, e1, r0, h F2 H2 v0 st (KRep.frz (rp F2))⟩) (plain_ix hs _ _)
theorem ing_run (tf : ∀ x l, G.tabs.lookup x = some l → TabF X L x l) {x : Str} {neg : Bool} {l : List (Str × D)} {F H F2 H2 : Hp} {y : D × Kd} {u : V} {uu du : Value} {pins : List (Addr × Obj)} {s : Shared} {σ : L2.St} {Q : VK} (q : G.tabs.lookup x = some l) (I : Inv X pins σ H2 s) (ru : RelV u uu) (hdu : X.mg x = some du)
    (st : Step F H F2 H2) (av : AVal X.K L.ct F2 H2 y.1 u) (h : Post X.K L.ct F H (E σ) Q (match y.1 with
      | .str z => .ok (.bl (if neg then (l.lookup z).isNone else (l.lookup z).isSome), .frz)
      | _ => .bad)) : wpAny (model X.prog X.w) X.A (compareOp (if neg then .NotIn else .In) uu du) (EP X pins σ Q) X.xe s := by
  obtain ⟨d, es, k, hm, kd, hz⟩ := (tf x l q).at_
  rw [hdu] at hm
  cases hm
  obtain ⟨y, ky⟩ := y
  dsimp only at h av
  cases y <;> first | exact h.elim | skip
  rename_i z
  obtain rfl := av.str
  dsimp only at h
  have e : ∃ r, PySem.W.nsIn X.K d z = some r ∧ r.isSome = (l.lookup z).isSome := by
    cases q2 : l.lookup z with
    | none => exact ⟨none, (hz z).2 q2, rfl⟩
    | some dz => obtain ⟨u0, v0, e1, _, _⟩ := (hz z).1 dz q2; exact ⟨_, e1, rfl⟩
  obtain ⟨r, er, es'⟩ := e
  cases neg with
  | false => exact op_in_kd kd pins s σ H2 (.str z) (.ref d) uu (.ref d) Q I ru rfl ⟨z, r, rfl, rfl, er, by rw [es']; exact h F2 H2 _ st (KRep.frz .bl)⟩
  | true => exact op_notIn_kd kd pins s σ H2 (.str z) (.ref d) uu (.ref d) Q I ru rfl ⟨z, r, rfl, rfl, er, by
      rw [es']
      have := h F2 H2 _ st (KRep.frz .bl)
      cases q2 : l.lookup z with
      | none => rw [q2] at this; exact this
      | some dz => rw [q2] at this; exact this⟩
def inOp (neg : Bool) : CmpOp := if neg then .NotIn else .In
theorem tf_mg (tf : ∀ x l, G.tabs.lookup x = some l → TabF X L x l) {x : Str} {l : List (Str × D)} (q : G.tabs.lookup x = some l) : ∃ du, X.mg x = some du := let ⟨_, _, _, hm, _⟩ := (tf x l q).at_; ⟨_, hm⟩
theorem s_ing (tf : ∀ x l, G.tabs.lookup x = some l → TabF X L x l) {x : Str} {neg : Bool} {p pos : Pos} {a : Expr} {n : M} (hg : Gl X x) (hd : (x == ("__debug__" : Str)) = false) (ha : PE X a (rd X.K L.ct G cl mk E n)) : PE X (.Compare a [inOp neg] [.Name x p] pos) (rd X.K L.ct G cl mk E (.ing x neg n)) := by
  refine ⟨fun pins s σ H Q I h => ?_⟩
  obtain ⟨F, e, o, h⟩ := h
  unfold evE at h
  cases q : G.tabs.lookup x with
  | none => rw [q] at h; exact h.elim
  | some l =>
    rw [q] at h
    obtain ⟨du, hm⟩ := tf_mg tf q
    exact wpAny_Compare1 (thn (ha.run pins s σ H _ I (rd1 (R := fun u H2 => ∃ F2, ∃ y : D × Kd, Step F H F2 H2 ∧ AVal X.K L.ct F2 H2 y.1 u ∧ Post X.K L.ct F H (E σ) Q (match y.1 with
      | .str z => .ok (.bl (if neg then (l.lookup z).isNone else (l.lookup z).isSome), .frz)
      | _ => .bad)) o h fun F1 H1 y u st kr _ h => ⟨F1, y, st, kr.1.any, h⟩)) fun uu s2 ⟨u, H2, I2, ru, F2, y, st, av, h⟩ => ld_glob I2 hg hm (ing_run tf q I2 ru hm st av h) hd) rfl
theorem s_ingT (tf : ∀ x l, G.tabs.lookup x = some l → TabF X L x l) {x : Str} {neg : Bool} {p pos : Pos} {a : Expr} {n : M} (hg : Gl X x) (hd : (x == ("__debug__" : Str)) = false) (ha : PE X a (rd X.K L.ct G cl mk E n)) : PT X (.Compare a [inOp neg] [.Name x p] pos) (rdT X.K L.ct G cl mk E (.ing x neg n)) := by
  refine ⟨fun pins s σ H Q I h => ?_⟩
  obtain ⟨F, e, o, h⟩ := h
  unfold evE at h
  cases q : G.tabs.lookup x with
  | none => rw [q] at h; exact h.elim
  | some l =>
    rw [q] at h
    obtain ⟨du, hm⟩ := tf_mg tf q
    have h2 : Post X.K L.ct F H (E σ) (fun v H' => ∃ k, v = .bl k ∧ Q k H') ((evE G cl mk n e).bind fun y => match y.1 with
      | .str z => .ok (.bl (if neg then (l.lookup z).isNone else (l.lookup z).isSome), .frz)
      | _ => .bad) := by
      cases q2 : evE G cl mk n e with
      | er x => rw [q2] at h; exact h
      | bad => rw [q2] at h; exact h
      | ok y =>
        rw [q2] at h
        obtain ⟨y, ky⟩ := y
        simp only [Res.bind] at h ⊢
        cases y <;> first | exact h.elim | skip
        exact postT_of (r := .ok _) h
    exact wpAny_isTrue_Compare1 (thn (ha.run pins s σ H _ I (rd1 (R := fun u H2 => ∃ F2, ∃ y : D × Kd, Step F H F2 H2 ∧ AVal X.K L.ct F2 H2 y.1 u ∧ Post X.K L.ct F H (E σ) (fun v H' => ∃ k, v = .bl k ∧ Q k H') (match y.1 with
      | .str z => .ok (.bl (if neg then (l.lookup z).isNone else (l.lookup z).isSome), .frz)
      | _ => .bad)) o h2 fun F1 H1 y u st kr _ h => ⟨F1, y, st, kr.1.any, h⟩)) fun uu s2 ⟨u, H2, I2, ru, F2, y, st, av, h⟩ => ld_glob I2 hg hm (thn (ing_run tf q I2 ru hm st av h) fun c s3 ⟨z, H3, I3, r3, k, ek, q3⟩ => by
        subst ek
        cases r3
        exact wpAny_truthy_bool ⟨H3, I3, q3⟩) hd) rfl
/-! ### isinstance -/
structure IsaF (K : PySem.W.Frag) (L : Lk) (G : Gm) : Prop where
  ha : ∀ c k, G.cls[c]? = some k → Cls K (L.ct c) ∧ PySem.W.findIn K (.ref (L.ct c)) "__class__" = some (some (.builtin "object.__class__")) ∧ PySem.W.mroIn K (L.ct c) (.type "object") = some true
  hn : PySem.W.specialIn K (.builtin "object.__class__") "__get__" = some (some (.builtin "getset_descriptor.__get__"))
  ht : PySem.W.takesIn K (.builtin "object.__class__") = some true
  bo : ∀ n, ["NoneType", "bool", "int", "str", "tuple", "list", "dict"].contains n = true → ∀ c k, G.cls[c]? = some k → PySem.W.kitOne K (.type n) (.ref (L.ct c)) = some false
  ob : ∀ m, isaNames.contains m = true → ∀ c k, G.cls[c]? = some k → PySem.W.kitOne K (.ref (L.ct c)) (.type m) = some false
  oo : ∀ c k c' k', G.cls[c]? = some k → G.cls[c']? = some k' → PySem.W.kitOne K (.ref (L.ct c')) (.ref (L.ct c)) = some (c' == c)
theorem kit_bb : (["NoneType", "bool", "int", "str", "tuple", "list", "dict"].all fun n => isaNames.all fun m => kitB n m == some (isaB n m)) = true := by decide +kernel
theorem tyx_of {K : PySem.W.Frag} {ct : CT} {F H : Hp} {d : D} {v : V} {n : String} (i : In F H) (a : AVal K ct F H d v) (e : tyName d = some n) : TyX K H v (.type n) ∧ ["NoneType", "bool", "int", "str", "tuple", "list", "dict"].contains n = true := by
  cases d with
  | non => cases e; obtain rfl := a.non; exact ⟨.base .non, rfl⟩
  | bl b => cases e; obtain rfl := a.bl; exact ⟨.base (.bl b), rfl⟩
  | int b => cases e; obtain rfl := a.int; exact ⟨.base (.int b), rfl⟩
  | str b => cases e; obtain rfl := a.str; exact ⟨.base (.str b), rfl⟩
  | tup l =>
    cases e
    obtain ⟨p, ws, rfl, h, _⟩ := a.tup
    refine ⟨?_, rfl⟩
    rcases i.st h with (h | ⟨o, h⟩) | ⟨o, its, n, h, hc, _⟩
    · exact .base (.tup h)
    · exact .fTuple h
    · exact .kTuple h hc
  | lst l =>
    cases e
    obtain ⟨p, ws, rfl, h, _⟩ := a.lst i
    exact ⟨.base (.lst h), rfl⟩
  | dic l =>
    cases e
    obtain ⟨p, ws, rfl, h, _⟩ := a.dic i
    exact ⟨.base (.dK h), rfl⟩
  | dit l =>
    cases e
    rcases a with a | ⟨p, rfl, _, ws, h, _⟩
    · cases a with
      | dit h _ => exact ⟨.base (.dT (i _ _ h)), rfl⟩
    · exact ⟨.base (.dT h), rfl⟩
  | scr l =>
    cases e
    obtain ⟨p, rfl, h⟩ := a.scr
    refine ⟨?_, rfl⟩
    rcases i.sl h with (h | ⟨o, h⟩) | ⟨o, its, n, h, hc, _⟩
    · exact .base (.lst h)
    · exact .base (.frz h)
    · exact .kList h hc
  | ins _ _ => cases e
  | cl _ => cases e
/-- the class that is asked for, as a value -/
def isaV (L : Lk) : Isa → V
  | .ty m => .ty m
  | .own c => .ref (L.ct c)
def isaU (L : Lk) : Isa → Value
  | .ty m => .type m
  | .own c => .ref (L.ct c)
theorem isa_run (f : IsaF X.K L G) {t : Isa} {F H : Hp} {d : D} {v : V} {b : Bool} (ht : ∀ c, t = .own c → ∃ k, G.cls[c]? = some k) (hd : ∀ c l, d = .ins c l → ∃ k, G.cls[c]? = some k) (hcl : ∀ c, d ≠ .cl c) (i : In F H) (a : AVal X.K L.ct F H d v) (e : isaD t d = some b) :
    ∃ ty, TyX X.K H v ty ∧ PySem.W.kitOne X.K ty (isaU L t) = some b := by
  have ins : ∀ c l, d = .ins c l → TyX X.K H v (.ref (L.ct c)) := fun c l ed => by
    subst ed
    obtain ⟨p, dx, ws, rfl, h, _⟩ := a.ins i
    obtain ⟨k, hk⟩ := hd c l rfl
    obtain ⟨h1, h2, h3⟩ := f.ha c k hk
    exact .base (.ins h h1 h2 f.hn f.ht h3)
  cases t with
  | ty m =>
    unfold isaD at e
    dsimp only at e
    split at e
    · rename_i hm
      cases q : tyName d with
      | some n =>
        rw [q] at e
        cases e
        obtain ⟨t1, hn⟩ := tyx_of i a q
        refine ⟨_, t1, kit_ty ?_⟩
        have := List.all_eq_true.mp (List.all_eq_true.mp kit_bb n (List.contains_iff_mem.mp hn)) m (List.contains_iff_mem.mp hm)
        exact beq_iff_eq.mp this
      | none =>
        rw [q] at e
        cases e
        cases d <;> first | exact (hcl _ rfl).elim | cases q | skip
        rename_i c l
        obtain ⟨k, hk⟩ := hd c l rfl
        exact ⟨_, ins c l rfl, f.ob m hm c k hk⟩
    · cases e
  | own c =>
    obtain ⟨k, hk⟩ := ht c rfl
    cases q : tyName d with
    | some n =>
      obtain ⟨t1, hn⟩ := tyx_of i a q
      have eb : b = false := by
        cases d <;> first | (cases e; rfl) | cases q
      subst eb
      exact ⟨_, t1, f.bo n hn c k hk⟩
    | none =>
      cases d <;> first | exact (hcl _ rfl).elim | cases q | skip
      rename_i c' l
      obtain ⟨k', hk'⟩ := hd c' l rfl
      cases e
      exact ⟨_, ins c' l rfl, f.oo c k c' k' hk hk'⟩
theorem okC_t {t : Isa} {d : D} (h : okC G t d = true) : (∀ c, t = .own c → ∃ k, G.cls[c]? = some k) ∧ (∀ c l, d = .ins c l → ∃ k, G.cls[c]? = some k) ∧ ∀ c, d ≠ .cl c := by
  unfold okC at h
  obtain ⟨a, b⟩ := Bool.and_eq_true_iff.mp h
  refine ⟨fun c e => ?_, fun c l e => ?_, fun c e => ?_⟩
  · subst e; exact Option.isSome_iff_exists.mp a
  · subst e; exact Option.isSome_iff_exists.mp b
  · subst e; cases b
theorem isaV_cls (t : Isa) : ClsV (isaV L t) (isaU L t) := by
  cases t with
  | ty m => exact .ty m
  | own c => exact .own _
theorem s_isi (f : IsaF X.K L G) {t : Isa} {p pos : Pos} {a b : Expr} {m : M} (hg : Gl X "isinstance") (hm : X.mg "isinstance" = none) (ha : PE X a (rd X.K L.ct G cl mk E m)) (hb : PE X b (tC (isaV L t))) (h1 : noStar a = true) (h2 : noStar b = true) :
    PE X (.Call (.Name "isinstance" p) [a, b] [] pos) (rd X.K L.ct G cl mk E (.isi m t)) := by
  refine PE.imp (pe_callB call_isi hg hm (by decide +kernel) (pa_cons ha (pa_cons hb pa_nil (star_cons h2)) (star_cons h1)) (he := star_cons h1) (hpl := star_any (es := [b]) (by rw [List.all_cons, h2]; rfl))) fun σ H Q h => ?_
  obtain ⟨F, e, o, h⟩ := h
  unfold evE at h
  refine rd1 (R := fun v H1 => rIsi X.K [v, isaV L t] H1 Q) o h fun F1 H1 x v st kr _ h => ?_
  cases q : okC G t x.1 with
  | false => rw [q] at h; exact h.elim
  | true =>
    rw [q] at h
    cases q2 : isaD t x.1 with
    | none => rw [q2] at h; exact h.elim
    | some r =>
      rw [q2] at h
      obtain ⟨c1, c2, c3⟩ := okC_t q
      obtain ⟨ty, t1, e1⟩ := isa_run f c1 c2 c3 st.in_ kr.1.any q2
      exact ⟨v, _, ty, _, r, rfl, isaV_cls t, t1, e1, h F1 H1 _ st (KRep.frz .bl)⟩
theorem s_neg (ow : ∀ (pins : List (Addr × Obj)) (s : Shared) (σ : L2.St) (F H : Hp) (c f : Nat) (fs : List (Str × D)) (v : V) (vv : Value) (Q : VK), Inv X pins σ H s → RelV v vv → In F H → Rep X.K L.ct F (.ins c fs) v →
      lookC G c "__neg__" = some f → Post X.K L.ct F H (E σ) Q (cl f [.ins c fs]) → wpAny (model X.prog X.w) X.A (unaryOp .USub vv) (EP X pins σ Q) X.xe s) {a : Expr} {m : M} {pos : Pos} (ha : PE X a (rd X.K L.ct G cl mk E m)) : PE X (.UnaryOp .USub a pos) (rd X.K L.ct G cl mk E (.neg m)) := by
  refine ⟨fun pins s σ H Q I h => ?_⟩
  obtain ⟨F, e, o, h⟩ := h
  unfold evE at h
  refine UnaryOp_ (thn (ha.run pins s σ H _ I (rd1 (R := fun v H1 => ∃ F1, ∃ x : D × Kd, Step F H F1 H1 ∧ KRep X.K L.ct F H F1 H1 x.2 x.1 v ∧ Post X.K L.ct F H (E σ) Q (match x.1 with
    | .int i => .ok (.int (-i), .frz)
    | .ins c fs => match lookC G c "__neg__" with | some f => if x.2 = .bor then .bad else cl f [.ins c fs] | none => .bad
    | _ => .bad)) o h fun F1 H1 x v st kr _ h => ⟨F1, x, st, kr, h⟩)) fun vv s1 ⟨v, H1, I1, r1, F1, x, st, kr, h⟩ => ?_)
  obtain ⟨x, kx⟩ := x
  dsimp only at h kr
  cases x <;> first | exact h.elim | skip
  · obtain rfl := kr.1.any.int
    exact un_neg pins s1 σ H1 _ _ _ I1 r1 ⟨_, rfl, h F1 H1 _ st (KRep.frz .int)⟩
  · rename_i c fs
    dsimp only at h
    cases q : lookC G c "__neg__" with
    | none => rw [q] at h; exact h.elim
    | some f =>
      rw [q] at h
      dsimp only at h
      by_cases nb : kx = .bor
      · rw [if_pos nb] at h; exact h.elim
      · rw [if_neg nb] at h
        obtain ⟨F3, s3, e3, r3⟩ := kr.fix st nb
        exact ow pins s1 σ F3 H1 c f fs v vv Q I1 r1 s3.in_ r3 q (Post.step s3 h)
/-! ### what is walked -/
def Walks (K : PySem.W.Frag) (ct : CT) (F1 : Hp) (l : List D) (J : It) : Prop :=
  ∀ i F' H', Ex F1 F' → In F' H' → (∀ d, l[i]? = some d → J.go i H' ∧ ∀ x H'', J.yld i H' x H'' → ∃ F'', Step F' H' F'' H'' ∧ Rep K ct F'' d x) ∧ (i = l.length → J.stop i H')
def PostI (K : PySem.W.Frag) (ct : CT) (F H : Hp) (Er : XK) (R : It → Hp → Prop) : Res (D × Kd) → Prop
  | .ok x => x.2 ≠ .bor ∧ ∃ l, itemsD x.1 = some l ∧ ∀ F1 H1 J, Step F H F1 H1 → Walks K ct F1 l J → R J H1
  | .er x => ∀ H' cls dd, Ez H H' → XRep K ct H' x cls dd → Er cls dd H'
  | .bad => False
def rdI (K : PySem.W.Frag) (ct : CT) (G : Gm) (cl : Nat → List D → Res (D × Kd)) (mk : Nat → List D → Res D) (E : L2.St → XK) (m : M) : TI := fun σ H R => ∃ F e, SOk K ct F H σ e ∧ PostI K ct F H (E σ) R (evE G cl mk m e)
theorem walks_list {K : PySem.W.Frag} {ct : CT} {F1 : Hp} {l : List D} {ws : List V} {a : Addr} (h : SqL K F1 a ws) (r : Reps K ct F1 l ws) : Walks K ct F1 l (Itl K a) := fun i F' H' e1 e2 =>
  ⟨fun d hd => by
    obtain ⟨w, hw, rw'⟩ := r.get hd
    refine ⟨⟨ws, w, (e1.trans e2.ex).sl h, hw⟩, fun x H'' hy => ?_⟩
    obtain ⟨rfl, f⟩ := hy
    have : x = w := Option.some.inj ((f ws ((e1.trans e2.ex).sl h)).symm.trans hw)
    subst this
    exact ⟨F', Step.refl e2, Rep.mono e1 rw'⟩, fun hi => ⟨ws, (e1.trans e2.ex).sl h, by rw [← r.length]; omega⟩⟩
theorem walks_tup {K : PySem.W.Frag} {ct : CT} {F1 : Hp} {l : List D} {ws : List V} {a : Addr} (h : SqT K F1 a ws) (r : Reps K ct F1 l ws) : Walks K ct F1 l (Itt K a) := fun i F' H' e1 e2 =>
  ⟨fun d hd => by
    obtain ⟨w, hw, rw'⟩ := r.get hd
    refine ⟨⟨ws, w, (e1.trans e2.ex).st h, hw⟩, fun x H'' hy => ?_⟩
    obtain ⟨rfl, f⟩ := hy
    have : x = w := Option.some.inj ((f ws ((e1.trans e2.ex).st h)).symm.trans hw)
    subst this
    exact ⟨F', Step.refl e2, Rep.mono e1 rw'⟩, fun hi => ⟨ws, (e1.trans e2.ex).st h, by rw [← r.length]; omega⟩⟩
theorem walks_rng {K : PySem.W.Frag} {ct : CT} {F1 : Hp} {lo : Int} {n : Nat} : Walks K ct F1 ((List.range n).map fun i => D.int (lo + (i : Nat))) (Itr lo n) := fun i F' H' e1 e2 =>
  ⟨fun d hd => by
    rw [List.getElem?_map] at hd
    cases q : (List.range n)[i]? with
    | none => rw [q] at hd; cases hd
    | some j =>
      rw [q] at hd
      cases hd
      have hi : i < n := by
        have := (List.getElem?_eq_some_iff.mp q).1
        simpa using this
      have hj : j = i := by
        rw [List.getElem?_range hi] at q
        exact (Option.some.inj q).symm
      subst hj
      refine ⟨hi, fun x H'' hy => ?_⟩
      obtain ⟨rfl, rfl⟩ := hy
      exact ⟨F', Step.refl e2, .int⟩, fun hi => by
    show n ≤ i
    rw [hi, List.length_map, List.length_range]
    exact Nat.le_refl _⟩
theorem walks_zipL {K : PySem.W.Frag} {ct : CT} {F1 : Hp} {l l' : List D} {ws ws' : List V} {a b : Addr} (h : SqL K F1 a ws) (r : Reps K ct F1 l ws) (h' : SqL K F1 b ws') (r' : Reps K ct F1 l' ws') : Walks K ct F1 ((l.zip l').map fun p => D.tup [p.1, p.2]) (Itz K a b) := fun i F' H' e1 e2 =>
  have ha := (e1.trans e2.ex).sl h
  have hb := (e1.trans e2.ex).sl h'
  ⟨fun d hd => by
    rw [List.getElem?_map] at hd
    cases q : (l.zip l')[i]? with
    | none => rw [q] at hd; cases hd
    | some p =>
      rw [q] at hd
      cases hd
      obtain ⟨p1, p2⟩ := List.getElem?_zip_eq_some.mp q
      obtain ⟨w, hw, rw1⟩ := r.get p1
      obtain ⟨w', hw', rw2⟩ := r'.get p2
      refine ⟨⟨ws, ws', w, w', ha, hb, hw, hw'⟩, fun x H'' hy => ?_⟩
      obtain ⟨T, x1, x2, rfl, nT, rfl, f1, f2⟩ := hy
      have e3 : x1 = w := Option.some.inj ((f1 ws ha).symm.trans hw)
      have e4 : x2 = w' := Option.some.inj ((f2 ws' hb).symm.trans hw')
      subst e3 e4
      exact ⟨upd F' T (.tup [x1, x2]), Step.lay e2 nT, .tup (.of upd_same) (.cons (Rep.mono (e1.trans (Ex.new (e2.none nT))) rw1) (.cons (Rep.mono (e1.trans (Ex.new (e2.none nT))) rw2) .nil))⟩, fun hi => by
    refine ⟨ws, ws', ha, hb, ?_⟩
    rw [← r.length, ← r'.length]
    rw [List.length_map, List.length_zip] at hi
    omega⟩
theorem walks_zipT {K : PySem.W.Frag} {ct : CT} {F1 : Hp} {l l' : List D} {ws ws' : List V} {a b : Addr} (h : SqT K F1 a ws) (r : Reps K ct F1 l ws) (h' : SqT K F1 b ws') (r' : Reps K ct F1 l' ws') : Walks K ct F1 ((l.zip l').map fun p => D.tup [p.1, p.2]) (RZ.ItzT K a b) := fun i F' H' e1 e2 =>
  have ha := (e1.trans e2.ex).st h
  have hb := (e1.trans e2.ex).st h'
  ⟨fun d hd => by
    rw [List.getElem?_map] at hd
    cases q : (l.zip l')[i]? with
    | none => rw [q] at hd; cases hd
    | some p =>
      rw [q] at hd
      cases hd
      obtain ⟨p1, p2⟩ := List.getElem?_zip_eq_some.mp q
      obtain ⟨w, hw, rw1⟩ := r.get p1
      obtain ⟨w', hw', rw2⟩ := r'.get p2
      refine ⟨⟨ws, ws', w, w', ha, hb, hw, hw'⟩, fun x H'' hy => ?_⟩
      obtain ⟨T, x1, x2, rfl, nT, rfl, f1, f2⟩ := hy
      have e3 : x1 = w := Option.some.inj ((f1 ws ha).symm.trans hw)
      have e4 : x2 = w' := Option.some.inj ((f2 ws' hb).symm.trans hw')
      subst e3 e4
      exact ⟨upd F' T (.tup [x1, x2]), Step.lay e2 nT, .tup (.of upd_same) (.cons (Rep.mono (e1.trans (Ex.new (e2.none nT))) rw1) (.cons (Rep.mono (e1.trans (Ex.new (e2.none nT))) rw2) .nil))⟩, fun hi => by
    refine ⟨ws, ws', ha, hb, ?_⟩
    rw [← r.length, ← r'.length]
    rw [List.length_map, List.length_zip] at hi
    omega⟩
end
end Dv
end
section
set_option Elab.async false
set_option linter.all false
set_option maxRecDepth 100000
set_option maxHeartbeats 4000000
namespace Dv
open PySem PySem.Spec PyProof.Rows L2
variable [Tt]
section
variable {X : Cx} {L : Lk} {G : Gm} {cl : Nat → List D → Res (D × Kd)} {mk : Nat → List D → Res D} {E : L2.St → XK}
theorem PI.imp {tg iter : Expr} {w w' : TI} (h : PI X tg iter w) (i : ∀ σ H R, w' σ H R → w σ H R) : PI X tg iter w' := ⟨fun pins s σ H R I q => h.run pins s σ H R I (i σ H R q)⟩
/-- a list or a tuple, as it comes -/
theorem pi_seqv {tg l : Expr} {m : M} (hl : PE X l (rd X.K L.ct G cl mk E m)) : PI X tg l (rdI X.K L.ct G cl mk E m) := by
  refine ⟨fun pins s σ H R I h => ?_⟩
  obtain ⟨F, e, o, h⟩ := h
  refine thn (hl.run pins s σ H (fun v H1 => ∃ F1 x l, itemsD x = some l ∧ Step F H F1 H1 ∧ Rep X.K L.ct F1 x v ∧ ∀ J, Walks X.K L.ct F1 l J → R J H1) I ⟨F, e, o, ?_⟩) fun v s1 ⟨x, H1, I1, r1, F1, d, l, hl', st, rp, q⟩ => ?_
  · cases q : evE G cl mk m e with
    | er x => rw [q] at h; exact h
    | bad => rw [q] at h; exact h
    | ok x =>
      rw [q] at h
      obtain ⟨nb, l, hl', h⟩ := h
      intro F1 H1 v st kr
      obtain ⟨F3, s3, e3, r3⟩ := kr.fix st nb
      exact ⟨F3, x.1, l, hl', s3, r3, fun J w => h F3 H1 J s3 w⟩
  · have fin : ∀ {J : It} {tn : Nat → Heap → Prop} {s2 : Shared}, True := trivial
    cases d <;> first | cases hl' | skip
    · -- a tuple
      cases rp with
      | tup ht hr =>
        cases r1
        obtain ⟨its, rv, p, hz⟩ := I1.tuple (st.in_.st ht)
        refine wpAny_pyIter_tuple (show s1.heap.IsTuple _ its.toArray from p) ?_
        refine ⟨s1.heap.objs.size, [s1.heap.objs.size], _, _, H1, rfl, I1.kept (t' := s1.toks) fun b o e => Heap.get?_push_of_some _ e, turn_tuple _ _, ⟨_, Heap.get?_push_size _ rfl, rfl, rfl⟩, fun b hb => ?_, q _ (walks_tup ht hr)⟩
        have e : b = s1.heap.objs.size := by simpa using hb
        subst e
        exact I1.fpOk (Nat.le_refl _) (I1.hok.fresh (Nat.le_refl _))
    · cases rp with
      | lst ht hr =>
        cases r1
        obtain ⟨its, rv, p, hz⟩ := I1.list (SqL.of (st.in_ _ _ ht))
        refine wpAny_pyIter_list p.isList ?_
        refine ⟨s1.heap.objs.size, [s1.heap.objs.size], _, _, H1, rfl, I1.kept (t' := s1.toks) fun b o e => Heap.get?_push_of_some _ e, turn_list _ _, ⟨_, Heap.get?_push_size _ rfl, rfl, rfl⟩, fun b hb => ?_, q _ (walks_list (.of ht) hr)⟩
        have e : b = s1.heap.objs.size := by simpa using hb
        subst e
        exact I1.fpOk (Nat.le_refl _) (I1.hok.fresh (Nat.le_refl _))
    · cases rp with
      | scr ht =>
        cases r1
        obtain ⟨its, rv, p, hz⟩ := I1.list (st.in_.sl ht)
        refine wpAny_pyIter_list p.isList ?_
        refine ⟨s1.heap.objs.size, [s1.heap.objs.size], _, _, H1, rfl, I1.kept (t' := s1.toks) fun b o e => Heap.get?_push_of_some _ e, turn_list _ _, ⟨_, Heap.get?_push_size _ rfl, rfl, rfl⟩, fun b hb => ?_, q _ (walks_list ht (ints_rep _))⟩
        have e : b = s1.heap.objs.size := by simpa using hb
        subst e
        exact I1.fpOk (Nat.le_refl _) (I1.hok.fresh (Nat.le_refl _))
/-- the arguments of what is walked -/
theorem rdI_A {F H : Hp} {σ : L2.St} {e : Dv.Env} {m : M} {f : List D → Option (List D)} {R : It → Hp → Prop} {Z : List V → Hp → Prop} (o : SOk X.K L.ct F H σ e)
    (h : PostI X.K L.ct F H (E σ) R ((evE G cl mk m e).bind fun x => if x.2 = .bor then .bad else match f (itemsOf x.1) with | some l => .ok (.lst l, .frz) | none => .bad))
    (k : ∀ F1 H1 ds l vs, (∃ x, evE G cl mk m e = .ok x ∧ ds = itemsOf x.1) → Step F H F1 H1 → Reps X.K L.ct F1 ds vs → f ds = some l → (∀ J, Walks X.K L.ct F1 l J → R J H1) → Z vs H1) : rdA X.K L.ct G cl mk E m σ H Z := by
  refine ⟨F, e, o, ?_⟩
  cases q : evE G cl mk m e with
  | er x => rw [q] at h; exact h
  | bad => rw [q] at h; exact h
  | ok x =>
    rw [q] at h
    simp only [Res.bind] at h
    intro F1 H1 vs st av rv
    by_cases nb : x.2 = .bor
    · rw [if_pos nb] at h; exact h.elim
    · rw [if_neg nb] at h
      cases q2 : f (itemsOf x.1) with
      | none => rw [q2] at h; exact h.elim
      | some l =>
        rw [q2] at h
        obtain ⟨_, l', e', h⟩ := h
        cases e'
        exact k F1 H1 _ l vs ⟨x, q, rfl⟩ st (rv nb) q2 fun J w => h F1 H1 J st w
/-- how long an argument list is -/
def lenM : M → Option Nat
  | .nil => some 0
  | .cons _ r => (lenM r).map (· + 1)
  | _ => none
theorem len_items {e : Dv.Env} : ∀ {m : M} {n : Nat} {x : D × Kd}, lenM m = some n → evE G cl mk m e = .ok x → (itemsOf x.1).length = n
  | .nil, n, x, h, q => by
    unfold evE at q
    cases q
    cases h
    rfl
  | .cons a r, n, x, h, q => by
    unfold lenM at h
    cases q1 : lenM r with
    | none => rw [q1] at h; cases h
    | some k =>
      rw [q1] at h
      cases h
      unfold evE at q
      cases q2 : evE G cl mk a e with
      | er _ => rw [q2] at q; cases q
      | bad => rw [q2] at q; cases q
      | ok y =>
        rw [q2] at q
        simp only [Res.bind] at q
        cases q3 : evE G cl mk r e with
        | er _ => rw [q3] at q; cases q
        | bad => rw [q3] at q; cases q
        | ok z =>
          rw [q3] at q
          cases q
          show (itemsOf z.1).length + 1 = k + 1
          rw [len_items q1 q3]
theorem pi_rng1 {tg a : Expr} {m : M} {p pos : Pos} (h1 : noStar a = true) (hl : lenM m = some 1) (hg : Gl X "range") (hm : X.mg "range" = none) (ha : PA X [a] (rdA X.K L.ct G cl mk E m)) : PI X tg (.Call (.Name "range" p) [a] [] pos) (rdI X.K L.ct G cl mk E (.rng m)) := by
  refine PI.imp (pi_range1 hg hm ha (star_cons h1)) fun σ H R h => ?_
  obtain ⟨F, e, o, h⟩ := h
  unfold evE at h
  refine rdI_A (f := rngD) o h fun F1 H1 ds l vs ⟨x, hx, ed⟩ st r e w => ?_
  have hn := len_items hl hx
  rw [← ed] at hn
  cases r with
  | nil => cases hn
  | cons r1 r2 =>
    cases r2 with
    | cons r2 r3 => simp at hn
    | nil =>
      cases r1 <;> first | cases e | skip
      rename_i n
      simp only [rngD] at e
      split at e
      · rename_i hn
        cases e
        exact ⟨_, rfl, hn.1, hn.2, w _ walks_rng⟩
      · cases e
theorem pi_rng2 {tg a b : Expr} {m : M} {p pos : Pos} (h1 : noStar a = true) (h2 : noStar b = true) (hl : lenM m = some 2) (hg : Gl X "range") (hm : X.mg "range" = none) (ha : PA X [a, b] (rdA X.K L.ct G cl mk E m)) : PI X tg (.Call (.Name "range" p) [a, b] [] pos) (rdI X.K L.ct G cl mk E (.rng m)) := by
  refine PI.imp (pi_range2 hg hm ha (by rw [star_cons h1, star_cons h2]; rfl) (star_cons h2)) fun σ H R h => ?_
  obtain ⟨F, e, o, h⟩ := h
  unfold evE at h
  refine rdI_A (f := rngD) o h fun F1 H1 ds l vs ⟨x, hx, ed⟩ st r e w => ?_
  have hn := len_items hl hx
  rw [← ed] at hn
  cases r with
  | nil => cases hn
  | cons r1 r2 =>
    cases r2 with
    | nil => cases hn
    | cons r2 r3 =>
      cases r3 with
      | cons _ _ => simp at hn
      | nil =>
        cases r1 <;> first | cases e | skip
        rename_i i
        cases r2 <;> first | cases e | skip
        rename_i j
        simp only [rngD] at e
        split at e
        · rename_i hn
          cases e
          exact ⟨_, _, rfl, hn, w _ walks_rng⟩
        · cases e
theorem pi_zipv {e1 e2 : Expr} {elts : List Expr} {kk : Nat} {m : M} {p pos tpos : Pos} (h1 : noStar e1 = true) (h2 : noStar e2 = true) (hl : lenM m = some 2) (hg : Gl X "zip") (hm : X.mg "zip" = none) (ha : PA X [e1, e2] (rdA X.K L.ct G cl mk E m)) :
    PI X (.Tuple elts kk tpos) (.Call (.Name "zip" p) [e1, e2] [] pos) (rdI X.K L.ct G cl mk E (.zip m)) := by
  refine PI.imp (RZ.pi_zipA hg hm ha (star_cons h1) (star_any (es := [e2]) (by rw [List.all_cons, h2]; rfl))) fun σ H R h => ?_
  obtain ⟨F, e, o, h⟩ := h
  unfold evE at h
  refine rdI_A (f := zipD) o h fun F1 H1 ds l vs ⟨x, hx, ed⟩ st r e w => ?_
  have hn := len_items hl hx
  rw [← ed] at hn
  cases r with
  | nil => cases hn
  | cons r1 r2 =>
    cases r2 with
    | nil => cases hn
    | cons r2 r3 =>
      cases r3 with
      | cons _ _ => simp at hn
      | nil =>
        cases r1 <;> first | (cases e; done) | skip
        · rename_i la wa aa ta ra
          cases r2 <;> first | (cases e; done) | skip
          rename_i lb wb ab tb rb
          cases e
          exact ⟨_, _, _, _, rfl, .inr ⟨st.in_.st aa, st.in_.st tb, w _ (walks_zipT aa ta tb rb)⟩⟩
        · rename_i la wa aa ta ra
          cases r2 <;> first | (cases e; done) | skip
          rename_i lb wb ab tb rb
          cases e
          exact ⟨_, _, _, _, rfl, .inl ⟨.of (st.in_ _ _ aa), .of (st.in_ _ _ tb), w _ (walks_zipL (.of aa) ta (.of tb) rb)⟩⟩
/-! ### targets -/
theorem getE_set {e : Dv.Env} {i j : Nat} {c : Option (D × Bool)} : getE (e.set i c) j = if i = j ∧ j < e.length then c else getE e j := by
  unfold getE
  by_cases h : i = j
  · subst h
    by_cases hl : i < e.length
    · rw [if_pos ⟨rfl, hl⟩, List.getElem?_set_self hl]
    · rw [if_neg (fun z => hl z.2), List.getElem?_eq_none (by rw [List.length_set]; omega), List.getElem?_eq_none (by omega)]
  · rw [if_neg (fun z => h z.1), List.getElem?_set_ne h]
section
variable {K : PySem.W.Frag} {ct : CT} {F H : Hp} {σ : L2.St} {e : Dv.Env}
theorem SOk.set (o : SOk K ct F H σ e) {i : Nat} {d : D} {v : V} (r : Rep K ct F d v) : SOk K ct F H (σ.set i (some v)) (e.set i (some (d, false))) where
  in_ := o.in_
  len := by rw [List.length_set, List.length_set, o.len]
  fz := fun j d' h => by
    rw [getE_set] at h
    split at h
    · rename_i z
      obtain ⟨rfl, hl⟩ := z
      cases h
      exact ⟨v, List.getElem?_set_self (by rw [o.len]; exact hl), r⟩
    · rename_i z
      obtain ⟨w, hw, rw'⟩ := o.fz j d' h
      refine ⟨w, ?_, rw'⟩
      rw [List.getElem?_set_ne]
      · exact hw
      · intro q
        refine z ⟨q, ?_⟩
        have := (List.getElem?_eq_some_iff.mp hw).1
        rw [← o.len]; exact this
  ow := fun j d' h => by
    rw [getE_set] at h
    split at h
    · cases h
    · rename_i z
      obtain ⟨p, hp, n, ow⟩ := o.ow j d' h
      refine ⟨p, ?_, n, ow⟩
      rw [List.getElem?_set_ne]
      · exact hp
      · intro q
        refine z ⟨q, ?_⟩
        have := (List.getElem?_eq_some_iff.mp hp).1
        rw [← o.len]; exact this
  ap := fun j k d' d'' p h1 h2 q1 q2 => by
    rw [getE_set] at h1 h2
    split at h1
    · cases h1
    · split at h2
      · cases h2
      · rename_i z1 z2
        obtain ⟨p1, hp1, _, _⟩ := o.ow j d' h1
        obtain ⟨p2, hp2, _, _⟩ := o.ow k d'' h2
        have l1 := (List.getElem?_eq_some_iff.mp hp1).1
        have l2 := (List.getElem?_eq_some_iff.mp hp2).1
        have n1 : i ≠ j := fun q => z1 ⟨q, by rw [← o.len]; exact l1⟩
        have n2 : i ≠ k := fun q => z2 ⟨q, by rw [← o.len]; exact l2⟩
        rw [List.getElem?_set_ne n1] at q1
        rw [List.getElem?_set_ne n2] at q2
        exact o.ap j k d' d'' p h1 h2 q1 q2
/-- a new list or dict, that the name alone has -/
theorem SOk.setOwn (o : SOk K ct F H σ e) {i : Nat} {d : D} {p : Addr} (n : F p = none) (ow : Own K ct F H p d) (ne : ∀ j d', getE e j = some (d', true) → j ≠ i → σ[j]? ≠ some (some (.ref p))) : SOk K ct F H (σ.set i (some (.ref p))) (e.set i (some (d, true))) where
  in_ := o.in_
  len := by rw [List.length_set, List.length_set, o.len]
  fz := fun j d' h => by
    rw [getE_set] at h
    split at h
    · cases h
    · rename_i z
      obtain ⟨w, hw, rw'⟩ := o.fz j d' h
      refine ⟨w, ?_, rw'⟩
      rw [List.getElem?_set_ne]
      · exact hw
      · intro q
        refine z ⟨q, ?_⟩
        have := (List.getElem?_eq_some_iff.mp hw).1
        rw [← o.len]; exact this
  ow := fun j d' h => by
    rw [getE_set] at h
    split at h
    · rename_i z
      obtain ⟨rfl, hl⟩ := z
      cases h
      exact ⟨p, List.getElem?_set_self (by rw [o.len]; exact hl), n, ow⟩
    · rename_i z
      obtain ⟨q, hq, n', ow'⟩ := o.ow j d' h
      refine ⟨q, ?_, n', ow'⟩
      rw [List.getElem?_set_ne]
      · exact hq
      · intro q'
        refine z ⟨q', ?_⟩
        have := (List.getElem?_eq_some_iff.mp hq).1
        rw [← o.len]; exact this
  ap := fun j k d' d'' q h1 h2 q1 q2 => by
    rw [getE_set] at h1 h2
    by_cases z1 : i = j ∧ j < e.length
    · by_cases z2 : i = k ∧ k < e.length
      · exact z1.1.symm.trans z2.1
      · rw [if_neg z2] at h2
        obtain ⟨rfl, l1⟩ := z1
        rw [List.getElem?_set_self (by rw [o.len]; exact l1)] at q1
        cases q1
        obtain ⟨p2, hp2, _, _⟩ := o.ow k d'' h2
        have l2 := (List.getElem?_eq_some_iff.mp hp2).1
        have n2 : i ≠ k := fun q => z2 ⟨q, by rw [← o.len]; exact l2⟩
        rw [List.getElem?_set_ne n2] at q2
        exact (ne k d'' h2 (Ne.symm n2) q2).elim
    · rw [if_neg z1] at h1
      obtain ⟨p1, hp1, _, _⟩ := o.ow j d' h1
      have l1 := (List.getElem?_eq_some_iff.mp hp1).1
      have n1 : i ≠ j := fun q => z1 ⟨q, by rw [← o.len]; exact l1⟩
      rw [List.getElem?_set_ne n1] at q1
      by_cases z2 : i = k ∧ k < e.length
      · obtain ⟨rfl, l2⟩ := z2
        rw [List.getElem?_set_self (by rw [o.len]; exact l2)] at q2
        cases q2
        exact (ne j d' h1 (Ne.symm n1) q1).elim
      · rw [if_neg z2] at h2
        obtain ⟨p2, hp2, _, _⟩ := o.ow k d'' h2
        have l2 := (List.getElem?_eq_some_iff.mp hp2).1
        have n2 : i ≠ k := fun q => z2 ⟨q, by rw [← o.len]; exact l2⟩
        rw [List.getElem?_set_ne n2] at q2
        exact o.ap j k d' d'' q h1 h2 q1 q2
theorem SOk.drop (o : SOk K ct F H σ e) {i : Nat} : SOk K ct F H (σ.set i none) (e.set i none) where
  in_ := o.in_
  len := by rw [List.length_set, List.length_set, o.len]
  fz := fun j d' h => by
    rw [getE_set] at h
    split at h
    · cases h
    · rename_i z
      obtain ⟨w, hw, rw'⟩ := o.fz j d' h
      refine ⟨w, ?_, rw'⟩
      rw [List.getElem?_set_ne]
      · exact hw
      · intro q
        refine z ⟨q, ?_⟩
        have := (List.getElem?_eq_some_iff.mp hw).1
        rw [← o.len]; exact this
  ow := fun j d' h => by
    rw [getE_set] at h
    split at h
    · cases h
    · rename_i z
      obtain ⟨q, hq, n', ow'⟩ := o.ow j d' h
      refine ⟨q, ?_, n', ow'⟩
      rw [List.getElem?_set_ne]
      · exact hq
      · intro q'
        refine z ⟨q', ?_⟩
        have := (List.getElem?_eq_some_iff.mp hq).1
        rw [← o.len]; exact this
  ap := fun j k d' d'' p h1 h2 q1 q2 => by
    rw [getE_set] at h1 h2
    split at h1
    · cases h1
    · split at h2
      · cases h2
      · rename_i z1 z2
        obtain ⟨p1, hp1, _, _⟩ := o.ow j d' h1
        obtain ⟨p2, hp2, _, _⟩ := o.ow k d'' h2
        have l1 := (List.getElem?_eq_some_iff.mp hp1).1
        have l2 := (List.getElem?_eq_some_iff.mp hp2).1
        have n1 : i ≠ j := fun q => z1 ⟨q, by rw [← o.len]; exact l1⟩
        have n2 : i ≠ k := fun q => z2 ⟨q, by rw [← o.len]; exact l2⟩
        rw [List.getElem?_set_ne n1] at q1
        rw [List.getElem?_set_ne n2] at q2
        exact o.ap j k d' d'' p h1 h2 q1 q2
theorem SOk.wipe (o : SOk K ct F H σ e) : ∀ vs : List Nat, SOk K ct F H (wipe σ vs) (wipeE e vs)
  | [] => o
  | _ :: vs => (o.wipe vs).drop
end
end
end Dv
end
section
set_option Elab.async false
set_option linter.all false
set_option maxRecDepth 100000
set_option maxHeartbeats 4000000
namespace Dv
open PySem PySem.Spec PyProof.Rows L2
variable [Tt]
/-- targets: a name, or names in parentheses -/
def gNs : List Nat → TGs
  | [] => gNil
  | i :: is => gCons (gName i) (gNs is)
def gT (K : PySem.W.Frag) (tg : List Nat) : TG := match tg with
  | [i] => gName i
  | is => gTup K is.length (gNs is)
section
variable {K : PySem.W.Frag} {ct : CT} {F H : Hp} {σ : L2.St} {e : Dv.Env}
theorem gNs_ok : ∀ {is : List Nat} {ds : List D} {ws : List V} {e e1 : Dv.Env} {σ : L2.St} {Q : L2.St → Hp → Prop}, setM is ds e = some e1 → Reps K ct F ds ws → SOk K ct F H σ e → (∀ σ1, SOk K ct F H σ1 e1 → (∀ vs : List Nat, (∀ i ∈ is, i ∈ vs) → wipe σ1 vs = wipe σ vs) → Q σ1 H) → gNs is ws σ H Q
  | [], [], _, _, _, _, _, h, .nil, o, k => by
    cases h
    exact ⟨rfl, k _ o fun _ _ => rfl⟩
  | i :: is, d :: ds, _, _, _, σ, _, h, .cons (v := v) r rr, o, k => by
    unfold setM at h
    refine ⟨_, _, rfl, ?_⟩
    refine gNs_ok h rr (o.set r) fun σ1 o1 w => k σ1 o1 fun vs hv => ?_
    rw [w vs fun j hj => hv j (List.mem_cons_of_mem _ hj)]
    exact wipe_set (hv i List.mem_cons_self)
  | [], _ :: _, _, _, _, _, _, h, _, _, _ => by cases h
  | _ :: _, [], _, _, _, _, _, h, _, _, _ => by cases h
where wipe_set {σ : L2.St} {i : Nat} {c : Option V} : ∀ {vs : List Nat}, i ∈ vs → wipe (σ.set i c) vs = wipe σ vs
  | v :: vs, h => by
    unfold wipe
    by_cases q : i ∈ vs
    · rw [wipe_set q]
    · have : i = v := (List.mem_cons.mp h).resolve_right q
      subst this
      have hh : ∀ ws : List Nat, i ∉ ws → ∀ c : Option V, wipe (σ.set i c) ws = (wipe σ ws).set i c := by
        intro ws
        induction ws with
        | nil => intro _ c; rfl
        | cons w ws ih =>
          intro hn c
          unfold wipe
          rw [ih (fun z => hn (List.mem_cons_of_mem _ z)), List.set_comm]
          intro z
          exact hn (z ▸ List.mem_cons_self)
      rw [hh vs q c, List.set_set]
theorem setM_len : ∀ {is : List Nat} {ds : List D} {e e1 : Dv.Env}, setM is ds e = some e1 → is.length = ds.length
  | [], [], _, _, _ => rfl
  | _ :: is, _ :: ds, e, e1, h => by
    unfold setM at h
    rw [List.length_cons, List.length_cons, setM_len h]
  | [], _ :: _, _, _, h => by cases h
  | _ :: _, [], _, _, h => by cases h
theorem bindT_tup {is : List Nat} {d : D} {e e1 : Dv.Env} (hn : ∀ i, is ≠ [i]) (h : bindT is d e = some e1) : ∃ l, d = .tup l ∧ setM is l e = some e1 := by
  match is, d, h with
  | [i], _, _ => exact (hn i rfl).elim
  | [], .tup l, h => exact ⟨l, rfl, h⟩
  | _ :: _ :: _, .tup l, h => exact ⟨l, rfl, h⟩
theorem gT_ok {tg : List Nat} {d : D} {v : V} {e1 : Dv.Env} {Q : L2.St → Hp → Prop} (h : bindT tg d e = some e1) (r : Rep K ct F d v) (o : SOk K ct F H σ e)
    (k : ∀ σ1, SOk K ct F H σ1 e1 → (∀ vs : List Nat, (∀ i ∈ tg, i ∈ vs) → wipe σ1 vs = wipe σ vs) → Q σ1 H) : gT K tg v σ H Q := by
  have tup : ∀ {is : List Nat}, (∀ i, is ≠ [i]) → bindT is d e = some e1 → (∀ σ1, SOk K ct F H σ1 e1 → (∀ vs : List Nat, (∀ i ∈ is, i ∈ vs) → wipe σ1 vs = wipe σ vs) → Q σ1 H) → gTup K is.length (gNs is) v σ H Q := by
    intro is hn hb k
    obtain ⟨l, rfl, h2⟩ := bindT_tup hn hb
    cases r with
    | tup ht hr => exact ⟨_, _, rfl, o.in_.st ht, by rw [← hr.length, setM_len h2], gNs_ok h2 hr o k⟩
  unfold gT
  split
  · rename_i i
    unfold bindT at h
    cases h
    exact k _ (o.set r) fun vs hv => gNs_ok.wipe_set (hv _ List.mem_cons_self)
  · rename_i is hn
    exact tup (fun i z => hn i z) h k
end
section
variable {X : Cx} {L : Lk} {G : Gm} {cl : Nat → List D → Res (D × Kd)} {mk : Nat → List D → Res D} {E : L2.St → XK}
abbrev E0 : L2.St → XK := fun _ _ _ _ => False
theorem compL_cons {tt te : Dv.Env → Res (D × Kd)} {tg : List Nat} {e : Dv.Env} {d : D} {r ds : List D} (h : compL tt te tg e (d :: r) = .ok ds) :
    ∃ e1 b bb, bindT tg d e = some e1 ∧ tt e1 = .ok b ∧ truth b.1 = some bb ∧ ((bb = false ∧ compL tt te tg e r = .ok ds) ∨ (bb = true ∧ ∃ x ds', te e1 = .ok x ∧ x.2 ≠ .bor ∧ compL tt te tg e r = .ok ds' ∧ ds = x.1 :: ds')) := by
  unfold compL at h
  cases q1 : bindT tg d e with
  | none => rw [q1] at h; cases h
  | some e1 =>
    rw [q1] at h
    dsimp only at h
    cases q2 : tt e1 with
    | er _ => rw [q2] at h; cases h
    | bad => rw [q2] at h; cases h
    | ok b =>
      rw [q2] at h
      dsimp only at h
      cases q3 : truth b.1 with
      | none => rw [q3] at h; cases h
      | some bb =>
        rw [q3] at h
        refine ⟨e1, b, bb, rfl, q2, q3, ?_⟩
        cases bb with
        | false => exact .inl ⟨rfl, h⟩
        | true =>
          dsimp only at h
          cases q4 : te e1 with
          | er _ => rw [q4] at h; cases h
          | bad => rw [q4] at h; cases h
          | ok x =>
            rw [q4] at h
            dsimp only at h
            by_cases nb : x.2 = .bor
            · rw [if_pos nb] at h; cases h
            · rw [if_neg nb] at h
              cases q5 : compL tt te tg e r with
              | er _ => rw [q5] at h; cases h
              | bad => rw [q5] at h; cases h
              | ok ds' =>
                rw [q5] at h
                cases h
                exact .inr ⟨rfl, x, ds', rfl, nb, rfl, rfl⟩
theorem compL_er {tt te : Dv.Env → Res (D × Kd)} {tg : List Nat} {e : Dv.Env} {x : D} : ∀ {l : List D}, compL tt te tg e l = .er x → False
  | [], h => by cases h
  | d :: r, h => by
    unfold compL at h
    cases q1 : bindT tg d e with
    | none => rw [q1] at h; cases h
    | some e1 =>
      rw [q1] at h
      dsimp only at h
      cases q2 : tt e1 with
      | er _ => rw [q2] at h; cases h
      | bad => rw [q2] at h; cases h
      | ok b =>
        rw [q2] at h
        dsimp only at h
        cases q3 : truth b.1 with
        | none => rw [q3] at h; cases h
        | some bb =>
          rw [q3] at h
          cases bb with
          | false => exact compL_er (l := r) h
          | true =>
            dsimp only at h
            cases q4 : te e1 with
            | er _ => rw [q4] at h; cases h
            | bad => rw [q4] at h; cases h
            | ok x =>
              rw [q4] at h
              dsimp only at h
              by_cases nb : x.2 = .bor
              · rw [if_pos nb] at h; cases h
              · rw [if_neg nb] at h
                cases q5 : compL tt te tg e r with
                | er _ => rw [q5] at h; cases h
                | bad => rw [q5] at h; cases h
                | ok ds' => rw [q5] at h; cases h
theorem wipe_none {v : Nat} : ∀ {ws : List Nat} {τ : L2.St}, wipe (τ.set v none) ws = (wipe τ ws).set v none
  | [], _ => rfl
  | w :: ws, τ => by
    unfold wipe
    rw [wipe_none]
    by_cases q : v = w
    · subst q; rfl
    · rw [List.set_comm _ _ q]
theorem wipe_wipe {σ : L2.St} : ∀ vs : List Nat, wipe (wipe σ vs) vs = wipe σ vs
  | [] => rfl
  | v :: vs => by
    show (wipe ((wipe σ vs).set v none) vs).set v none = (wipe σ vs).set v none
    rw [wipe_none, wipe_wipe vs, List.set_set]
theorem comp_read {F H : Hp} {σ : L2.St} {e : Dv.Env} {vs tg : List Nat} {it t c : M} {Q : VK} {tt : TT} {te : TE} (o : SOk X.K L.ct F H σ e) (hv : ∀ i ∈ tg, i ∈ vs)
    (ht : ∀ σ H Q, rdT X.K L.ct G cl mk E0 t σ H Q → tt σ H Q) (hc : ∀ σ H Q, rd X.K L.ct G cl mk E0 c σ H Q → te σ H Q)
    (h : Post X.K L.ct F H (E σ) Q (evE G cl mk (.comp vs tg it t c) e)) : tLc (rdI X.K L.ct G cl mk E it) (gT X.K tg) tt te vs σ H Q := by
  unfold evE at h
  refine ⟨F, e, o, ?_⟩
  cases q : evE G cl mk it e with
  | er x => rw [q] at h; exact h
  | bad => rw [q] at h; exact h
  | ok x =>
    rw [q] at h
    simp only [Res.bind] at h
    by_cases nb : x.2 = .bor
    · rw [if_pos nb] at h; exact h.elim
    rw [if_neg nb] at h
    cases q2 : itemsD x.1 with
    | none => rw [q2] at h; exact h.elim
    | some l =>
    rw [q2] at h
    dsimp only at h
    by_cases big : 100000 < l.length
    · rw [if_pos big] at h; exact h.elim
    rw [if_neg big] at h
    cases q3 : compL (evE G cl mk t) (evE G cl mk c) tg (wipeE e vs) l with
    | er x => exact (compL_er q3).elim
    | bad => rw [q3] at h; exact h.elim
    | ok ds =>
    rw [q3] at h
    refine ⟨nb, l, q2, fun F1 H1 J st w Dl hD => ?_⟩
    have hF1 : F1 Dl = none := st.in_.none hD
    refine ⟨fun i m H' => i + m = l.length ∧ ∃ F' acc ds0 rest, Step F1 H1 F' H' ∧ F' Dl = none ∧ H' Dl = some (.lst acc) ∧ Reps X.K L.ct F' ds0 acc ∧ acc.length ≤ i ∧ compL (evE G cl mk t) (evE G cl mk c) tg (wipeE e vs) (l.drop i) = .ok rest ∧ ds = ds0 ++ rest,
      ⟨l.length, by omega, F1, [], [], ds, ⟨Ex.refl _, .new st.in_.tb hD, st.in_.new hD, fun _ z => .inl z⟩, hF1, upd_same, .nil, Nat.le_refl _, q3, rfl⟩, fun i m H' ⟨em, F', acc, ds0, rest, st', nF, hl, ra, la, qr, ed⟩ => ?_⟩
    obtain ⟨wt, we⟩ := w i F' H' st'.fz st'.in_
    by_cases hi : i < l.length
    · have e1 : l.drop i = l[i] :: l.drop (i + 1) := List.drop_eq_getElem_cons hi
      rw [e1] at qr
      obtain ⟨env1, b, bb, hb, htt, htr, rest'⟩ := compL_cons qr
      obtain ⟨hgo, hy⟩ := wt l[i] (List.getElem?_eq_getElem hi)
      refine .inr ⟨hgo, fun H'' => (i + 1) + (m - 1) = l.length ∧ ∃ F' acc ds0 rest, Step F1 H1 F' H'' ∧ F' Dl = none ∧ H'' Dl = some (.lst acc) ∧ Reps X.K L.ct F' ds0 acc ∧ acc.length ≤ i + 1 ∧ compL (evE G cl mk t) (evE G cl mk c) tg (wipeE e vs) (l.drop (i + 1)) = .ok rest ∧ ds = ds0 ++ rest,
        fun H'' z => ⟨m - 1, by omega, z⟩, fun y H2 hyl => ?_⟩
      obtain ⟨F2, s2, r2⟩ := hy y H2 hyl
      have s02 : Step F H F2 H2 := (st.trans st').trans s2
      have o2 : SOk X.K L.ct F2 H2 (wipe σ vs) (wipeE e vs) := (o.step s02).wipe vs
      refine gT_ok hb r2 o2 fun σ1 o1 hw => ⟨?_, ?_⟩
      · rw [hw vs hv]
        exact wipe_wipe vs
      have nD2 : F2 Dl = none := s2.keep nF (not_nw hl)
      have lD2 : H2 Dl = some (.lst acc) := s2.hp.get hl
      refine ht _ _ _ ⟨F2, env1, o1, ?_⟩
      rw [htt, postT_ok, htr]
      intro F3 H3 s3
      have nD3 : F3 Dl = none := s3.keep nD2 (not_nw lD2)
      have lD3 : H3 Dl = some (.lst acc) := s3.hp.get lD2
      rcases rest' with ⟨rfl, qr'⟩ | ⟨rfl, x, ds', hx, nbx, qr', er⟩
      · refine iteF ⟨by omega, F3, acc, ds0, rest, (st'.trans s2).trans s3, nD3, lD3, ra.mono (s2.fz.trans s3.fz), by omega, qr', ed⟩
      · refine iteT (hc _ _ _ ⟨F3, env1, o1.step s3, ?_⟩)
        rw [hx]
        intro F4 H4 v s4 kr
        obtain ⟨F5, s5, e5, r5⟩ := kr.fix s4 nbx
        have nD5 : F5 Dl = none := s5.keep nD3 (not_nw lD3)
        have lD5 : H4 Dl = some (.lst acc) := s5.hp.get lD3
        refine ⟨acc, lD5, Nat.lt_of_le_of_lt (show acc.length ≤ 100000 by omega) (by decide), by omega, F5, acc ++ [v], ds0 ++ [x.1], ds', ?_, nD5, upd_same, (ra.mono ((s2.fz.trans s3.fz).trans s5.fz)).append (.cons r5 .nil), by rw [List.length_append, List.length_singleton]; omega, qr', by rw [ed, er]; simp⟩
        have s15 := ((st'.trans s2).trans s3).trans s5
        exact ⟨s15.fz, s15.hp.put (.of hD) lD5, s15.in_.put nD5 lD5, s15.new⟩
    · have ei : i = l.length := by omega
      refine .inl ⟨we ei, ?_⟩
      have : l.drop i = [] := List.drop_of_length_le (by omega)
      rw [this] at qr
      cases qr
      rw [List.append_nil] at ed
      subst ed
      exact h F' H' (.ref Dl) (st.trans st') ⟨⟨Dl, rfl, nF, acc, hl, ra⟩, fun _ p ep => by cases ep; exact st.hp.none hD⟩
/-- [c for tg in it if t] -/
theorem s_comp (g : X.calm = true) {elt tg iter : Expr} {ifs : List Expr} {scope : Scope} {own : List (Str × Nat)} {pos : Pos} {tgs vs : List Nat} {it t c : M} {tt : TT} (hN : X.N.Nodup) (hi : PI X tg iter (rdI X.K L.ct G cl mk E it)) (ok : BlkOk X.N X.env.scope scope own) (ev : own.map (·.2) = vs) (hv : ∀ i ∈ tgs, i ∈ vs)
    (hg : ∀ (s : Shared) (H : Hp) (C : Addr) (cl : List (Str × Addr)) (fp : List Addr), PG (X.blk s H scope (compEnvC scope cl C X.env) fp) tg (gT X.K tgs)) (ht : ∀ (s : Shared) (H : Hp) (C : Addr) (cl : List (Str × Addr)) (fp : List Addr), PTs (X.blk s H scope (compEnvC scope cl C X.env) fp) ifs tt)
    (he : ∀ (s : Shared) (H : Hp) (C : Addr) (cl' : List (Str × Addr)) (fp : List Addr), PE (X.blk s H scope (compEnvC scope cl' C X.env) fp) elt (rd X.K L.ct G cl mk E0 c)) (hs : ∀ x, foldedSetIterable iter X.env x = pure x)
    (htt : ∀ σ H Q, rdT X.K L.ct G cl mk E0 t σ H Q → tt σ H Q) : PE X (.ListComp elt [⟨tg, iter, ifs, 0⟩] scope pos) (rd X.K L.ct G cl mk E (.comp vs tgs it t c)) := by
  refine PE.imp (pe_lc g hN hi ok hg ht he hs) fun σ H Q h => ?_
  obtain ⟨F, e, o, h⟩ := h
  rw [ev]
  exact comp_read o hv htt (fun _ _ _ z => z) h
theorem yes_read {σ : L2.St} {H : Hp} {Q : Bool → Hp → Prop} (h : rdT X.K L.ct G cl mk E (.cst (.bl true)) σ H Q) : tYes σ H Q := by
  obtain ⟨F, e, o, h⟩ := h
  exact h F H (Step.refl o.in_)
end
end Dv
end
section
set_option Elab.async false
set_option linter.all false
set_option maxRecDepth 100000
set_option maxHeartbeats 4000000
namespace Dv
open PySem PySem.Spec PyProof.Rows L2
variable [Tt]
/-! ### a list grown by a tuple -/
theorem ext_tup (l : Addr) (xs : Array Value) (n : Nat) (b : Addr) (ys : Array Value) (k : Nat) (dd : Option Addr) (sl : Array (Option Value)) (h0 : ¬(!xs.isEmpty && Builtin.List.listTooLong (xs.size + ys.size)) = true) (h1 : xs.size ≤ sizeLine) (h2 : xs.size + ys.size ≤ sizeLine + 1) :
    Meets (Builtin.«list.extend» ⟨[.ref l, .ref b], []⟩) (fun _ R s => s.heap.get? l = some { cls := .type "list", dict := none, data := .seq xs n, slots := #[] } ∧
      s.heap.get? b = some { cls := .type "tuple", dict := dd, data := .seq ys k, slots := sl } ∧ R (.ok (.ret Value.none)) { s with heap := s.heap.update l (Obj.mapSeq fun x => x ++ ys), toks := s.toks }) :=
  .of_wp fun prog w A R s h => by
    obtain ⟨hp, g, d, tk, os⟩ := s
    obtain ⟨hl, hb, h⟩ := h
    have e1 := AutoSeq1.idx_int
    have e2 := AutoSeq1.sub_tuple_tuple
    have e3 := AutoSeq1.sub_list_list
    have e4 := AutoSeq1.sub_tuple_list
    have e5 := AutoSeq1.sub_list_tuple
    have hz : (xs ++ ys).size ≤ sizeLine + 1 := by
      rw [Array.size_append]
      exact h2
    wp_walk using (wpAny_updateSeq hl rfl (hz := h1) (_hz' := hz)), AutoSeq1.wpAny_loadPart' hl, AutoSeq1.wpAny_loadPart' hb
    exact ⟨_, rfl, h⟩
section
variable {X : Cx}
def rExtT (K : PySem.W.Frag) : V → List V → Hp → VK → Prop := fun x vs H Q => ∃ l b xs zs, x = .ref l ∧ vs = [.ref b] ∧ H l = some (.lst xs) ∧ SqT K H b zs ∧ xs.length + zs.length ≤ sizeLine ∧ Q .non (upd H l (.lst (xs ++ zs)))
theorem mt_extT : MtR X "list.extend" (rExtT X.K) := by
  intro pins s σ H x vs v us Q I rx rv h
  obtain ⟨l, b, xs, zs, rfl, rfl, hH, hB, hz, q⟩ := h
  cases rx
  obtain ⟨u, rfl, ru⟩ := rv.one
  cases ru
  obtain ⟨z, its, n, r, hl, e⟩ := I.lstM hH
  obtain ⟨its2, r2, ⟨⟨cls, dd, data, sl⟩, ho, hc, k, hd⟩, hz2⟩ := I.tuple hB
  simp only at hc hd
  subst hc hd
  have hl2 := r2.length
  have hsz : its.toArray.size + its2.toArray.size ≤ sizeLine := by rw [List.size_toArray, List.size_toArray]; omega
  have hlong : ¬ (!its.toArray.isEmpty && Builtin.List.listTooLong (its.toArray.size + its2.toArray.size)) = true := by
    rw [notLongL hsz, Bool.and_false]
    exact Bool.false_ne_true
  refine call_meets F.slot_list_extend ⟨_, e, rfl⟩ F.entry_list_extend (F.args_list_extend_2 _ _)
    (ext_tup l its.toArray n b its2.toArray k dd sl hlong (by rw [List.size_toArray]; omega) (by omega)) ⟨e, ho, ?_⟩
  refine ⟨.non, _, I.lset (its' := its ++ its2) hH e (by simp) (r.append r2) ?_, rfl, q⟩
  rw [List.length_append]
  omega
end
/-! ### statements -/
section
variable (K : PySem.W.Frag) (ct : CT) (G : Gm) (cl : Nat → List D → Res (D × Kd)) (mk : Nat → List D → Res D) (wf : Nat) (E : XK) (F0 H0 : Hp) (p0 : Addr)
/-- the state, from a def's entry on -/
structure SS (F H : Hp) (σ : L2.St) (e : Env) : Prop where
  ok : SOk K ct F H σ e
  st : Step F0 H0 F H
  nw : ∀ i d p, getE e i = some (d, true) → σ[i]? = some (some (.ref p)) → Nw H0 p
  sf : ∀ i c l, getE e i = some (.ins c l, true) → σ[i]? = some (some (.ref p0))
def PostS (Dn : Ends) : Out → Prop
  | .nx e => ∀ F H σ, SS K ct F0 H0 p0 F H σ e → Dn.nx σ H
  | .bk e => ∀ F H σ, SS K ct F0 H0 p0 F H σ e → Dn.bk σ H
  | .ct e => ∀ F H σ, SS K ct F0 H0 p0 F H σ e → Dn.ct σ H
  | .rt d k => ∀ F H v, Step F0 H0 F H → KRep K ct F0 H0 F H k d v → Dn.rt v H
  | .er x => ∀ H cls dd, Ez H0 H → XRep K ct H x cls dd → E cls dd H
  | .bad => False
def rdS (s : S) : TS := fun Dn σ H => ∃ F e, SS K ct F0 H0 p0 F H σ e ∧ PostS K ct E F0 H0 p0 Dn (evS G cl mk wf s e)
end
theorem PS.imp {X : Cx} {st : Stmt} {t t' : TS} (h : PS X st t) (i : ∀ D σ H, t' D σ H → t D σ H) : PS X st t' := ⟨fun pins s σ H D I q => h.run pins s σ H D I (i D σ H q)⟩
theorem PSs.imp {X : Cx} {st : List Stmt} {t t' : TS} (h : PSs X st t) (i : ∀ D σ H, t' D σ H → t D σ H) : PSs X st t' := ⟨fun pins s σ H D I q => h.run pins s σ H D I (i D σ H q)⟩
section
variable {X : Cx} {L : Lk} {G : Gm} {cl : Nat → List D → Res (D × Kd)} {mk : Nat → List D → Res D} {wf : Nat} {E : XK} {F0 H0 : Hp} {p0 : Addr}
theorem SS.step {K : PySem.W.Frag} {ct : CT} {F H F' H' : Hp} {σ : L2.St} {e : Dv.Env} (s : SS K ct F0 H0 p0 F H σ e) (t : Step F H F' H') : SS K ct F0 H0 p0 F' H' σ e := ⟨s.ok.step t, s.st.trans t, s.nw, s.sf⟩
/-- an expression, then what is done with its value -/
theorem rd_out {F H : Hp} {σ : L2.St} {e : Dv.Env} {m : M} {f : D → Kd → Out} {Dn : Ends} {R : VK} (s : SS X.K L.ct F0 H0 p0 F H σ e) (h : PostS X.K L.ct E F0 H0 p0 Dn (Out.of (evE G cl mk m e) f))
    (k : ∀ F1 H1 d kd v, Step F H F1 H1 → KRep X.K L.ct F H F1 H1 kd d v → SS X.K L.ct F0 H0 p0 F1 H1 σ e → PostS X.K L.ct E F0 H0 p0 Dn (f d kd) → R v H1) : rd X.K L.ct G cl mk (fun _ => E) m σ H R := by
  refine ⟨F, e, s.ok, ?_⟩
  cases q : evE G cl mk m e with
  | ok x =>
    rw [q] at h
    exact fun F1 H1 v st kr => k F1 H1 x.1 x.2 v st kr (s.step st) h
  | er x =>
    rw [q] at h
    exact fun H' cls dd ex xr => h H' cls dd (s.st.hp.trans ex) xr
  | bad => rw [q] at h; exact h
theorem S_done : PSs X [] (rdS X.K L.ct G cl mk wf E F0 H0 p0 .done) := PSs.imp pss_nil fun D σ H ⟨F, e, s, h⟩ => by
  unfold evS at h
  exact h F H σ s
theorem S_seq {st : Stmt} {sts : List Stmt} {s r : S} (h1 : PS X st (rdS X.K L.ct G cl mk wf E F0 H0 p0 s)) (h2 : PSs X sts (rdS X.K L.ct G cl mk wf E F0 H0 p0 r)) : PSs X (st :: sts) (rdS X.K L.ct G cl mk wf E F0 H0 p0 (.seq s r)) := PSs.imp (pss_cons h1 h2) fun D σ H ⟨F, e, ss, h⟩ => by
  unfold evS at h
  refine ⟨F, e, ss, ?_⟩
  cases q : evS G cl mk wf s e with
  | nx e1 => rw [q] at h; exact fun F' H' σ' s' => ⟨F', e1, s', h⟩
  | rt d k => rw [q] at h; exact h
  | bk e1 => rw [q] at h; exact h
  | ct e1 => rw [q] at h; exact h
  | er x => rw [q] at h; exact h
  | bad => rw [q] at h; exact h
theorem frz_at {K : PySem.W.Frag} {ct : CT} {F H F2 H2 : Hp} {p : Addr} {d : D} (s : Step F H F2 H2) (own : Own K ct F2 H2 p d) (hn : Nw H p) : ∃ F3, Step F H F3 H2 ∧ Ex F2 F3 ∧ Rep K ct F3 d (.ref p) ∧ ∀ a, a ≠ p → F3 a = F2 a := by
  obtain ⟨u, hu, nt, r⟩ := own.obj
  have e23 : Ex F2 (fun a => if a = p then H2 p else F2 a) := fun a w q => by
    show (if a = p then H2 p else F2 a) = some w
    by_cases z : a = p
    · rw [if_pos z]; subst z; exact s.in_ _ _ q
    · rw [if_neg z]; exact q
  refine ⟨fun a => if a = p then H2 p else F2 a, ⟨s.fz.trans e23, s.hp, ⟨fun a w q => ?_, fun a ps q => ?_, s.in_.tb⟩, fun a q => ?_⟩, e23, r _ e23 (by rw [if_pos rfl]; exact hu), fun a z => if_neg z⟩
  · have q : (if a = p then H2 p else F2 a) = some w := q
    by_cases z : a = p
    · rw [if_pos z] at q; subst z; exact q
    · rw [if_neg z] at q; exact s.in_ _ _ q
  · have q : (if a = p then H2 p else F2 a) = some (.tbl ps) := q
    by_cases z : a = p
    · rw [if_pos z, hu] at q; exact nt ps (Option.some.inj q)
    · rw [if_neg z] at q; exact s.in_.nt a ps q
  · have q : (if a = p then H2 p else F2 a) ≠ none := q
    by_cases z : a = p
    · subst z; exact .inr hn
    · rw [if_neg z] at q; exact s.new a q
/-- names to be frozen ahead of a statement -/
theorem frz_ss {K : PySem.W.Frag} {ct : CT} {H : Hp} {σ : L2.St} : ∀ {is : List Nat} {F : Hp} {e : Dv.Env}, SS K ct F0 H0 p0 F H σ e → ∃ F', SS K ct F0 H0 p0 F' H σ (frzE is e)
  | [], F, e, s => ⟨F, s⟩
  | i :: is, F, e, s => by
    unfold frzE
    split
    · rename_i d q
      obtain ⟨p, hp, n, ow⟩ := s.ok.ow i d q
      have hn := s.nw i d p q hp
      obtain ⟨F3, s3, e3, r3, oth⟩ := frz_at s.st ow hn
      refine frz_ss (is := is) (F := F3) ⟨⟨s3.in_, by rw [s.ok.len, List.length_set], fun j d' h => ?_, fun j d' h => ?_, fun j k d' d'' p' h1 h2 q1 q2 => ?_⟩, s3, fun j d' p' h hq => ?_, fun j c l h => ?_⟩
      · rw [getE_set] at h
        split at h
        · rename_i z
          obtain ⟨rfl, _⟩ := z
          cases h
          exact ⟨_, hp, r3⟩
        · obtain ⟨w, hw, rw'⟩ := s.ok.fz j d' h
          exact ⟨w, hw, Rep.mono e3 rw'⟩
      · rw [getE_set] at h
        split at h
        · cases h
        · rename_i z
          obtain ⟨p', hp', n', ow'⟩ := s.ok.ow j d' h
          have hj : j < e.length := by
            rw [← s.ok.len]
            exact (List.getElem?_eq_some_iff.mp hp').1
          have ne : p' ≠ p := fun ep => by
            subst ep
            exact z ⟨s.ok.ap i j d d' p' q h hp hp', hj⟩
          refine ⟨p', hp', ?_, ow'.mono e3 (Ez.refl s3.in_.tb)⟩
          rw [oth p' ne]
          exact n'
      · rw [getE_set] at h1 h2
        split at h1
        · cases h1
        · split at h2
          · cases h2
          · exact s.ok.ap j k d' d'' p' h1 h2 q1 q2
      · rw [getE_set] at h
        split at h
        · cases h
        · exact s.nw j d' p' h hq
      · rw [getE_set] at h
        split at h
        · cases h
        · exact s.sf j c l h
    · exact frz_ss s
theorem PostS_step {Dn : Ends} {o : Out} (h : PostS X.K L.ct E F0 H0 p0 Dn o) : PostS X.K L.ct E F0 H0 p0 Dn o := h
/-- a statement with names frozen ahead of it -/
theorem S_frz {st : Stmt} {is : List Nat} {s : S} (h : PS X st (rdS X.K L.ct G cl mk wf E F0 H0 p0 s)) : PS X st (rdS X.K L.ct G cl mk wf E F0 H0 p0 (.seq (.frz is) s)) := PS.imp h fun D σ H ⟨F, e, ss, h⟩ => by
  unfold evS at h
  simp only [evS] at h
  obtain ⟨F', s'⟩ := frz_ss (is := is) ss
  exact ⟨F', _, s', h⟩
theorem SS.set {K : PySem.W.Frag} {ct : CT} {F H : Hp} {σ : L2.St} {e : Dv.Env} (s : SS K ct F0 H0 p0 F H σ e) {i : Nat} {d : D} {v : V} (r : Rep K ct F d v) : SS K ct F0 H0 p0 F H (σ.set i (some v)) (e.set i (some (d, false))) :=
  ⟨s.ok.set r, s.st, fun j d' p h hq => by
    rw [getE_set] at h
    split at h
    · cases h
    · rename_i z
      obtain ⟨q, hq', _, _⟩ := s.ok.ow j d' h
      have l1 := (List.getElem?_eq_some_iff.mp hq').1
      have n1 : i ≠ j := fun q => z ⟨q, by rw [← s.ok.len]; exact l1⟩
      rw [List.getElem?_set_ne n1] at hq
      exact s.nw j d' p h hq, fun j c l h => by
    rw [getE_set] at h
    split at h
    · cases h
    · rename_i z
      obtain ⟨q, hq', _, _⟩ := s.ok.ow j _ h
      have l1 := (List.getElem?_eq_some_iff.mp hq').1
      have n1 : i ≠ j := fun q => z ⟨q, by rw [← s.ok.len]; exact l1⟩
      rw [List.getElem?_set_ne n1]
      exact s.sf j c l h⟩
theorem SS.setOwn {K : PySem.W.Frag} {ct : CT} {F H : Hp} {σ : L2.St} {e : Dv.Env} (s : SS K ct F0 H0 p0 F H σ e) {i : Nat} {d : D} {p : Addr} (n : F p = none) (ow : Own K ct F H p d) (ne : ∀ j d', getE e j = some (d', true) → j ≠ i → σ[j]? ≠ some (some (.ref p))) (hn : Nw H0 p) (ni : ∀ c l, d ≠ .ins c l) :
    SS K ct F0 H0 p0 F H (σ.set i (some (.ref p))) (e.set i (some (d, true))) :=
  ⟨s.ok.setOwn n ow ne, s.st, fun j d' q h hq => by
    rw [getE_set] at h
    by_cases z : i = j ∧ j < e.length
    · obtain ⟨rfl, hl⟩ := z
      rw [List.getElem?_set_self (by rw [s.ok.len]; exact hl)] at hq
      cases hq
      exact hn
    · rw [if_neg z] at h
      obtain ⟨q', hq', _, _⟩ := s.ok.ow j d' h
      have l1 := (List.getElem?_eq_some_iff.mp hq').1
      have n1 : i ≠ j := fun q => z ⟨q, by rw [← s.ok.len]; exact l1⟩
      rw [List.getElem?_set_ne n1] at hq
      exact s.nw j d' q h hq, fun j c l h => by
    rw [getE_set] at h
    by_cases z : i = j ∧ j < e.length
    · rw [if_pos z] at h
      exact (ni c l (by cases h; rfl)).elim
    · rw [if_neg z] at h
      obtain ⟨q', hq', _, _⟩ := s.ok.ow j _ h
      have l1 := (List.getElem?_eq_some_iff.mp hq').1
      have n1 : i ≠ j := fun q => z ⟨q, by rw [← s.ok.len]; exact l1⟩
      rw [List.getElem?_set_ne n1]
      exact s.sf j c l h⟩
/-- a value goes to a name -/
theorem SS.put {K : PySem.W.Frag} {ct : CT} {F H F1 H1 : Hp} {σ : L2.St} {e : Dv.Env} (s : SS K ct F0 H0 p0 F H σ e) (st : Step F H F1 H1) {i : Nat} {d : D} {k : Kd} {v : V} (kr : KRep K ct F H F1 H1 k d v) (nb : ¬ (k = .bor ∨ insFr d k = true)) : SS K ct F0 H0 p0 F1 H1 (σ.set i (some v)) (e.set i (some (d, isOwn k))) := by
  cases k with
  | frz => exact (s.step st).set kr.1
  | bor => exact (nb (.inl rfl)).elim
  | fr =>
    obtain ⟨p, rfl, n, ow⟩ := kr.1
    have hn := kr.2 rfl p rfl
    refine (s.step st).setOwn n ow (fun j d' h _ hq => ?_) (s.st.hp.nw hn) (fun c l z => nb (.inr (by subst z; rfl)))
    obtain ⟨q, hq', _, ow'⟩ := s.ok.ow j d' h
    rw [hq'] at hq
    cases hq
    exact ow'.there hn
theorem S_asg {i : Nat} {x : Str} {a : Expr} {m : M} {pos pos' : Pos} (hN : X.N.Nodup) (hi : X.N[i]? = some x) (hx : Loc X.env.scope x) (hs : swapsWith a (some (.Name x pos')) pos.line X.env = pure false) (hf : X.fn x = true ∨ X.env.scope.names.lookup x = some .local) (ha : PE X a (rd X.K L.ct G cl mk (fun _ => E) m)) :
    PS X (.Assign [.Name x pos'] a pos) (rdS X.K L.ct G cl mk wf E F0 H0 p0 (.asg i m)) := PS.imp (ps_set hN hi hx ha hs hf) fun D σ H ⟨F, e, ss, h⟩ => by
  unfold evS at h
  refine rd_out ss h fun F1 H1 d kd v st kr s1 h => ?_
  by_cases nb : kd = .bor ∨ insFr d kd = true
  · rw [if_pos nb] at h; exact h.elim
  · rw [if_neg nb] at h
    exact h _ _ _ (ss.put st kr nb)
/-- y = [.. for ..] -/
theorem S_asgC (g : X.calm = true) {i : Nat} {y : Str} {py : Pos} {elt tg iter : Expr} {ifs : List Expr} {scope : Scope} {own : List (Str × Nat)} {pos spos : Pos} {tgs vs : List Nat} {it t c : M} {tt : TT} (hN : X.N.Nodup) (hy : X.N[i]? = some y) (hyl : X.env.scope.names.lookup y = some .local)
    (hsw : swapsWith (.ListComp elt [⟨tg, iter, ifs, 0⟩] scope pos) (some (.Name y py)) spos.line X.env = pure true) (hi : PI X tg iter (rdI X.K L.ct G cl mk (fun _ => E) it)) (ok : BlkOk X.N X.env.scope scope own) (ev : own.map (·.2) = vs) (hv : ∀ i ∈ tgs, i ∈ vs)
    (hg : ∀ (s : Shared) (H : Hp) (C : Addr) (cl : List (Str × Addr)) (fp : List Addr), PG (X.blk s H scope (compEnvC scope cl C X.env) fp) tg (gT X.K tgs)) (ht : ∀ (s : Shared) (H : Hp) (C : Addr) (cl : List (Str × Addr)) (fp : List Addr), PTs (X.blk s H scope (compEnvC scope cl C X.env) fp) ifs tt)
    (he : ∀ (s : Shared) (H : Hp) (C : Addr) (cl' : List (Str × Addr)) (fp : List Addr), PE (X.blk s H scope (compEnvC scope cl' C X.env) fp) elt (rd X.K L.ct G cl mk E0 c)) (hs : ∀ x, foldedSetIterable iter X.env x = pure x)
    (htt : ∀ σ H Q, rdT X.K L.ct G cl mk E0 t σ H Q → tt σ H Q) : PS X (.Assign [.Name y py] (.ListComp elt [⟨tg, iter, ifs, 0⟩] scope pos) spos) (rdS X.K L.ct G cl mk wf E F0 H0 p0 (.asg i (.comp vs tgs it t c))) := PS.imp (ps_setLc g hN hy hyl hsw hi ok hg ht he hs) fun D σ H ⟨F, e, ss, h⟩ => by
  unfold evS at h
  rw [ev]
  have h2 : Post X.K L.ct F H E (fun v H1 => D.nx (σ.set i (some v)) H1) (evE G cl mk (.comp vs tgs it t c) e) := by
    cases q : evE G cl mk (.comp vs tgs it t c) e with
    | er x =>
      rw [q] at h
      exact fun H' cls dd ex xr => h H' cls dd (ss.st.hp.trans ex) xr
    | bad => rw [q] at h; exact h
    | ok x =>
      rw [q] at h
      intro F1 H1 v st kr
      unfold Out.of at h
      dsimp only at h
      by_cases nb : x.2 = .bor ∨ insFr x.1 x.2 = true
      · rw [if_pos nb] at h; exact h.elim
      · rw [if_neg nb] at h
        exact h _ _ _ (ss.put st kr nb)
  exact comp_read (E := fun _ => E) ss.ok hv htt (fun _ _ _ z => z) h2
theorem S_ex {a : Expr} {m : M} {pos : Pos} (hs : swapsWith a none pos.line X.env = pure false) (ha : PE X a (rd X.K L.ct G cl mk (fun _ => E) m)) : PS X (.Expr a pos) (rdS X.K L.ct G cl mk wf E F0 H0 p0 (.ex m)) := PS.imp (ps_expr ha hs) fun D σ H ⟨F, e, ss, h⟩ => by
  unfold evS at h
  exact rd_out ss h fun F1 H1 d kd v st kr s1 h => h _ _ _ s1
theorem S_ret {a : Expr} {m : M} {pos : Pos} (ha : PE X a (rd X.K L.ct G cl mk (fun _ => E) m)) : PS X (.Return (some a) pos) (rdS X.K L.ct G cl mk wf E F0 H0 p0 (.ret m)) := PS.imp (ps_ret ha) fun D σ H ⟨F, e, ss, h⟩ => by
  unfold evS at h
  refine ⟨F, e, ss.ok, ?_⟩
  cases q : evE G cl mk m e with
  | er x =>
    rw [q] at h
    exact fun H' cls dd ex xr => h H' cls dd (ss.st.hp.trans ex) xr
  | bad => rw [q] at h; exact h
  | ok x =>
    rw [q] at h
    intro F1 H1 v st kr
    unfold Out.of at h
    dsimp only at h
    by_cases nb : x.2 = .bor
    · rw [if_pos nb] at h; exact h.elim
    · rw [if_neg nb] at h
      exact h F1 H1 v (ss.st.trans st) (kr.back ss.st)
theorem S_rets {i : Nat} {x : Str} {pos p : Pos} (hN : X.N[i]? = some x) (hv : Vis X.env.scope x) (hd : (x == ("__debug__" : Str)) = false) (hcd : (x == ("__classdict__" : Str)) = false) : PS X (.Return (some (.Name x p)) pos) (rdS X.K L.ct G cl mk wf E F0 H0 p0 (.rets i)) :=
  PS.imp (ps_ret (pe_var hN hv hd hcd)) fun D σ H ⟨F, e, ss, h⟩ => by
  unfold evS at h
  cases q : getE e i with
  | none => rw [q] at h; exact h.elim
  | some c =>
    obtain ⟨d, b⟩ := c
    rw [q] at h
    cases b with
    | false =>
      obtain ⟨v, hv, r⟩ := ss.ok.fz i d q
      exact ⟨v, hv, h F H v ss.st (KRep.frz r)⟩
    | true =>
      obtain ⟨p, hv, n, ow⟩ := ss.ok.ow i d q
      exact ⟨_, hv, h F H _ ss.st ⟨⟨p, rfl, n, ow⟩, fun _ p' ep => by cases ep; exact ss.nw i d p q hv⟩⟩
theorem S_retn {pos : Pos} : PS X (.Return none pos) (rdS X.K L.ct G cl mk wf E F0 H0 p0 .retn) := PS.imp ps_retN fun D σ H ⟨F, e, ss, h⟩ => by
  unfold evS at h
  exact h F H .non ss.st (KRep.frz .non)
theorem S_pass {pos : Pos} : PS X (.Pass pos) (rdS X.K L.ct G cl mk wf E F0 H0 p0 .pass) := PS.imp ps_pass fun D σ H ⟨F, e, ss, h⟩ => by
  unfold evS at h
  exact h F H σ ss
theorem S_brk {pos : Pos} : PS X (.Break pos) (rdS X.K L.ct G cl mk wf E F0 H0 p0 .brk) := PS.imp ps_break fun D σ H ⟨F, e, ss, h⟩ => by
  unfold evS at h
  exact h F H σ ss
theorem S_cnt {pos : Pos} : PS X (.Continue pos) (rdS X.K L.ct G cl mk wf E F0 H0 p0 .cnt) := PS.imp ps_continue fun D σ H ⟨F, e, ss, h⟩ => by
  unfold evS at h
  exact h F H σ ss
theorem S_doc {x : Str} {j : Nat} {p p' : Pos} : PS X (.Expr (.Constant (.str x) j p) p') (rdS X.K L.ct G cl mk wf E F0 H0 p0 .pass) := PS.imp ps_doc fun D σ H ⟨F, e, ss, h⟩ => by
  unfold evS at h
  exact h F H σ ss
theorem S_ite {c : Expr} {a b : List Stmt} {t : M} {s r : S} {pos : Pos} (hc : PT X c (rdT X.K L.ct G cl mk (fun _ => E) t)) (ha : PSs X a (rdS X.K L.ct G cl mk wf E F0 H0 p0 s)) (hb : PSs X b (rdS X.K L.ct G cl mk wf E F0 H0 p0 r)) : PS X (.If c a b pos) (rdS X.K L.ct G cl mk wf E F0 H0 p0 (.ite t s r)) := PS.imp (ps_if hc ha hb) fun D σ H ⟨F, e, ss, h⟩ => by
  unfold evS at h
  refine ⟨F, e, ss.ok, ?_⟩
  cases q : evE G cl mk t e with
  | er x =>
    rw [q] at h
    exact fun H' cls dd ex xr => h H' cls dd (ss.st.hp.trans ex) xr
  | bad => rw [q] at h; exact h
  | ok x =>
    rw [q] at h
    unfold Out.of at h
    dsimp only at h
    rw [postT_ok]
    cases qt : truth x.1 with
    | none => rw [qt] at h; exact h.elim
    | some k =>
      rw [qt] at h
      intro F1 H1 st
      cases k with
      | true => exact iteT ⟨F1, e, ss.step st, h⟩
      | false => exact iteF ⟨F1, e, ss.step st, h⟩
end
end Dv
end
section
set_option Elab.async false
set_option linter.all false
set_option maxRecDepth 100000
set_option maxHeartbeats 4000000
namespace Dv
open PySem PySem.Spec PyProof.Rows L2
variable [Tt]
section
variable {X : Cx} {L : Lk} {G : Gm} {cl : Nat → List D → Res (D × Kd)} {mk : Nat → List D → Res D} {wf : Nat} {E : XK} {F0 H0 : Hp} {p0 : Addr}
theorem Own.upd {K : PySem.W.Frag} {ct : CT} {F H : Hp} {p q : Addr} {o : HO} (ne : q ≠ p) : ∀ {d : D}, Own K ct F H q d → Own K ct F (upd H p o) q d
  | .lst _, ⟨ws, h, r⟩ => ⟨ws, by rw [upd_ne ne]; exact h, r⟩
  | .dic _, ⟨ws, h, r⟩ => ⟨ws, by rw [upd_ne ne]; exact h, r⟩
  | .dit _, ⟨ws, h, r⟩ => ⟨ws, by rw [upd_ne ne]; exact h, r⟩
  | .ins _ _, ⟨dx, ws, h, r⟩ => ⟨dx, ws, by rw [upd_ne ne]; exact h, r⟩
  | .non, h => h.elim
  | .bl _, h => h.elim
  | .int _, h => h.elim
  | .str _, h => h.elim
  | .tup _, h => h.elim
  | .scr _, h => h.elim
theorem Own.kind {K : PySem.W.Frag} {ct : CT} {F H : Hp} {p : Addr} : ∀ {d : D}, Own K ct F H p d → ∃ u, H p = some u ∧ (∀ ps, u ≠ .tbl ps) ∧ ∀ c q, u ≠ LamX.CodeO c q
  | .lst _, ⟨ws, h, r⟩ => ⟨_, h, (fun _ z => nomatch z), fun _ _ z => by unfold LamX.CodeO at z; cases z⟩
  | .dic _, ⟨ws, h, r⟩ => ⟨_, h, (fun _ z => nomatch z), fun _ _ z => by unfold LamX.CodeO at z; cases z⟩
  | .dit _, ⟨ws, h, r⟩ => ⟨_, h, (fun _ z => nomatch z), fun _ _ z => by unfold LamX.CodeO at z; cases z⟩
  | .ins _ _, ⟨dx, ws, h, r⟩ => ⟨_, h, (fun _ z => nomatch z), fun _ _ z => by unfold LamX.CodeO at z; cases z⟩
  | .non, h => h.elim
  | .bl _, h => h.elim
  | .int _, h => h.elim
  | .str _, h => h.elim
  | .tup _, h => h.elim
  | .scr _, h => h.elim
theorem SS.own_at {K : PySem.W.Frag} {ct : CT} {F H : Hp} {σ : L2.St} {e : Dv.Env} (s : SS K ct F0 H0 p0 F H σ e) {i : Nat} {d : D} {p : Addr} (q : getE e i = some (d, true)) (hp : σ[i]? = some (some (.ref p))) : ∃ u, H p = some u ∧ (∀ ps, u ≠ .tbl ps) ∧ ∀ c q, u ≠ LamX.CodeO c q := by
  obtain ⟨p', hp', _, ow⟩ := s.ok.ow i d q
  rw [hp'] at hp
  cases hp
  exact ow.kind
/-- a name's own list is changed -/
theorem SS.mut {K : PySem.W.Frag} {ct : CT} {F H : Hp} {σ : L2.St} {e : Dv.Env} (s : SS K ct F0 H0 p0 F H σ e) {i : Nat} {d d' : D} {p : Addr} {o : HO} (q : getE e i = some (d, true)) (hp : σ[i]? = some (some (.ref p))) (n : F p = none) (ow : Own K ct F (L2.upd H p o) p d') (hi : ∀ c l, d' = .ins c l → ∃ c' l', d = .ins c' l') :
    SS K ct F0 H0 p0 F (L2.upd H p o) σ (e.set i (some (d', true))) := by
  have hn := s.nw i d p q hp
  obtain ⟨u, hu, nt, nc⟩ := s.own_at q hp
  refine ⟨⟨s.ok.in_.put n hu nt nc, by rw [s.ok.len, List.length_set], fun j d2 h => ?_, fun j d2 h => ?_, fun j k d2 d3 p' h1 h2 q1 q2 => ?_⟩, ⟨s.st.fz, s.st.hp.put hn hu nt nc, s.ok.in_.put n hu nt nc, s.st.new⟩, fun j d2 p' h hq => ?_, fun j c l h => ?_⟩
  · rw [getE_set] at h
    split at h
    · cases h
    · exact s.ok.fz j d2 h
  · rw [getE_set] at h
    split at h
    · rename_i z
      obtain ⟨rfl, _⟩ := z
      cases h
      exact ⟨p, hp, n, ow⟩
    · rename_i z
      obtain ⟨p', hp', n', ow'⟩ := s.ok.ow j d2 h
      have hj : j < e.length := by
        rw [← s.ok.len]
        exact (List.getElem?_eq_some_iff.mp hp').1
      have ne : p' ≠ p := fun ep => by
        subst ep
        exact z ⟨s.ok.ap i j d d2 p' q h hp hp', hj⟩
      exact ⟨p', hp', n', ow'.upd ne⟩
  · have old : ∀ j d2, getE (e.set i (some (d', true))) j = some (d2, true) → ∃ d3, getE e j = some (d3, true) := fun j d2 h => by
      rw [getE_set] at h
      split at h
      · rename_i z
        obtain ⟨rfl, _⟩ := z
        exact ⟨d, q⟩
      · exact ⟨d2, h⟩
    obtain ⟨a, ha⟩ := old j d2 h1
    obtain ⟨b, hb⟩ := old k d3 h2
    exact s.ok.ap j k a b p' ha hb q1 q2
  · rw [getE_set] at h
    split at h
    · rename_i z
      obtain ⟨rfl, _⟩ := z
      rw [hp] at hq
      cases hq
      exact hn
    · exact s.nw j d2 p' h hq
  · rw [getE_set] at h
    split at h
    · rename_i z
      obtain ⟨rfl, _⟩ := z
      obtain ⟨c', l', e'⟩ := hi c l (by cases h; rfl)
      subst e'
      exact s.sf i c' l' q
    · exact s.sf j c l h
theorem few1 {a : Expr} {env : PySem.Env} {pos : Pos} (h : noStar a = true) : ((backTo pos (starEach [a] env)).all (fun x => !x.1) && (backToKw pos (keywordEach [] env)).all (fun x => x.1.isSome)
      && decide ([a].length + ([] : List Keyword).length + (if ([] : List Keyword).isEmpty then 0 else 1) < 30)) = true := by
  rw [star_all (es := [a]) (by rw [List.all_cons, h]; rfl)]
  rfl
theorem S_app {i : Nat} {x : Str} {a : Expr} {m : M} {p apos cpos pos : Pos} (hN : X.N[i]? = some x) (hv : Vis X.env.scope x) (hd : (x == ("__debug__" : Str)) = false) (hcd : (x == ("__classdict__" : Str)) = false) (hl : (apos.endLine == cpos.line) = true) (h1 : noStar a = true) (ha : PE X a (rd X.K L.ct G cl mk (fun _ => E) m)) :
    PS X (.Expr (.Call (.Attribute (.Name x p) "append" apos) [a] [] cpos) pos) (rdS X.K L.ct G cl mk wf E F0 H0 p0 (.app i m)) := by
  refine PS.imp (ps_expr (pe_bm PySem.F.plainAttrs_list PySem.F.slot_list_append PySem.F.type_list_append mt_append (pe_var hN hv hd hcd) (pa_cons ha pa_nil (star_cons h1)) (hbase := base_ok rfl) (hfew := few1 h1) (hline := hl) (hs := star_cons h1) (hplain := rfl))) fun D σ H ⟨F, e, ss, h⟩ => ?_
  unfold evS at h
  cases q : getE e i with
  | none => rw [q] at h; exact h.elim
  | some c =>
    rw [q] at h
    obtain ⟨d, b⟩ := c
    cases b with
    | false => cases d <;> exact h.elim
    | true =>
      cases d <;> first | exact h.elim | skip
      rename_i l
      dsimp only at h
      obtain ⟨p0, hp, n, ws, hH, hr⟩ := ss.ok.ow i _ q
      by_cases hz : l.length < sizeLine
      · rw [if_pos hz] at h
        refine ⟨_, hp, .inl ⟨rfl, ws, .of hH⟩, ?_⟩
        refine rd_out ss h fun F1 H1 d kd v st kr s1 h => ?_
        by_cases nb : kd = .bor
        · rw [if_pos nb] at h; exact h.elim
        · rw [if_neg nb] at h
          obtain ⟨F3, s3, e3, r3⟩ := kr.fix st nb
          have n3 : F3 p0 = none := s3.keep n (not_nw hH)
          refine ⟨p0, ws, v, rfl, rfl, s3.hp.get hH, by rw [← hr.length]; exact hz, ?_⟩
          exact h F3 _ σ ((ss.step s3).mut q hp n3 ⟨_, upd_same, (hr.mono s3.fz).append (.cons r3 .nil)⟩ (fun _ _ z => nomatch z))
      · rw [if_neg hz] at h; exact h.elim
theorem S_ext {i : Nat} {x : Str} {a : Expr} {m : M} {p apos cpos pos : Pos} (hN : X.N[i]? = some x) (hv : Vis X.env.scope x) (hd : (x == ("__debug__" : Str)) = false) (hcd : (x == ("__classdict__" : Str)) = false) (hl : (apos.endLine == cpos.line) = true) (h1 : noStar a = true) (ha : PE X a (rd X.K L.ct G cl mk (fun _ => E) m)) :
    PS X (.Expr (.Call (.Attribute (.Name x p) "extend" apos) [a] [] cpos) pos) (rdS X.K L.ct G cl mk wf E F0 H0 p0 (.ext i m)) := by
  refine PS.imp (ps_expr (pe_bm PySem.F.plainAttrs_list PySem.F.slot_list_extend PySem.F.type_list_extend (MtR.or mt_extend mt_extT) (pe_var hN hv hd hcd) (pa_cons ha pa_nil (star_cons h1)) (hbase := base_ok rfl) (hfew := few1 h1) (hline := hl) (hs := star_cons h1) (hplain := rfl))) fun D σ H ⟨F, e, ss, h⟩ => ?_
  unfold evS at h
  cases q : getE e i with
  | none => rw [q] at h; exact h.elim
  | some c =>
    rw [q] at h
    obtain ⟨d, b⟩ := c
    cases b with
    | false => cases d <;> exact h.elim
    | true =>
      cases d <;> first | exact h.elim | skip
      rename_i l
      dsimp only at h
      obtain ⟨p0, hp, n, ws, hH, hr⟩ := ss.ok.ow i _ q
      refine ⟨_, hp, .inl ⟨rfl, ws, .of hH⟩, ?_⟩
      refine rd_out ss h fun F1 H1 d kd v st kr s1 h => ?_
      by_cases nb : kd = .bor
      · rw [if_pos nb] at h; exact h.elim
      · rw [if_neg nb] at h
        obtain ⟨F3, s3, e3, r3⟩ := kr.fix st nb
        have n3 : F3 p0 = none := s3.keep n (not_nw hH)
        cases d <;> first | exact h.elim | skip
        · rename_i l'
          dsimp only at h
          split at h
          · rename_i hz
            cases r3 with
            | tup ht r4 =>
              refine .inr ⟨p0, _, ws, _, rfl, rfl, s3.hp.get hH, s3.in_.st ht, by rw [← hr.length, ← r4.length]; exact hz, ?_⟩
              exact h F3 _ σ ((ss.step s3).mut q hp n3 ⟨_, upd_same, (hr.mono s3.fz).append r4⟩ (fun _ _ z => nomatch z))
          · exact h.elim
        · rename_i l'
          dsimp only at h
          split at h
          · rename_i hz
            cases r3 with
            | lst ht r4 =>
              refine .inl ⟨p0, _, ws, _, rfl, rfl, s3.hp.get hH, s3.in_ _ _ ht, by rw [← hr.length, ← r4.length]; exact hz, ?_⟩
              exact h F3 _ σ ((ss.step s3).mut q hp n3 ⟨_, upd_same, (hr.mono s3.fz).append r4⟩ (fun _ _ z => nomatch z))
          · exact h.elim
def augF : Bop → Int → Int → Int
  | .add, i, j => i + j
  | _, i, j => i - j
/-- name op= e, ints -/
theorem S_aug {i : Nat} {x : Str} {a : Expr} {o : Bop} {m : M} {pos pos' : Pos} (ho : o = .add ∨ o = .sub) (hN : X.N.Nodup) (hi : X.N[i]? = some x) (hx : Loc X.env.scope x) (hf : X.fn x = true ∨ X.env.scope.names.lookup x = some .local) (ha : PE X a (rd X.K L.ct G cl mk (fun _ => E) m)) :
    PS X (.AugAssign (.Name x pos') (pyOp o) a pos) (rdS X.K L.ct G cl mk wf E F0 H0 p0 (.aug i o m)) := by
  have ip : PIp X (pyOp o) (ipI (augF o)) := by
    rcases ho with rfl | rfl
    · exact ip_add
    · exact ip_sub
  refine PS.imp (ps_aug hN hi hx ha ip hf) fun D σ H ⟨F, e, ss, h⟩ => ?_
  unfold evS at h
  cases q : getE e i with
  | none => rw [q] at h; exact h.elim
  | some c =>
    rw [q] at h
    obtain ⟨d, b⟩ := c
    cases b with
    | true => cases d <;> exact h.elim
    | false =>
      cases d <;> first | exact h.elim | skip
      rename_i n
      dsimp only at h
      obtain ⟨v, hv, r⟩ := ss.ok.fz i _ q
      cases r
      refine ⟨_, hv, rd_out ss h fun F1 H1 d kd w st kr s1 h => ?_⟩
      cases d <;> first | exact h.elim | skip
      rename_i k
      have := kr.1.any.int
      subst this
      rcases ho with rfl | rfl
      · exact ⟨n, k, rfl, rfl, h _ _ _ (s1.set .int)⟩
      · exact ⟨n, k, rfl, rfl, h _ _ _ (s1.set .int)⟩
/-- a, b = e -/
theorem S_unp {is : List Nat} {tg a : Expr} {m : M} {pos : Pos} (hg : PG X tg (gTup X.K is.length (gNs is))) (hs : swapsWithSole [tg] a pos.line X.env = pure false) (hw : swappedStores [tg] a X.env = pure none) (h1 : (assignEach [tg] X.env).map (·.2) = [assign tg X.env]) (ha : PE X a (rd X.K L.ct G cl mk (fun _ => E) m)) :
    PS X (.Assign [tg] a pos) (rdS X.K L.ct G cl mk wf E F0 H0 p0 (.unp is m)) := by
  refine PS.imp (ps_asg ha hg hs hw h1) fun D σ H ⟨F, e, ss, h⟩ => ?_
  unfold evS at h
  refine rd_out ss h fun F1 H1 d kd v st kr s1 h => ?_
  cases d <;> first | exact h.elim | skip
  rename_i l
  dsimp only at h
  cases q : setM is l e with
  | none => rw [q] at h; exact h.elim
  | some e1 =>
    rw [q] at h
    obtain ⟨p, ws, rfl, ht, hr⟩ := kr.1.any.tup
    refine ⟨p, ws, rfl, st.in_.st ht, by rw [← hr.length, setM_len q], gNs_ss q hr s1 fun σ1 s2 => h _ _ _ s2⟩
where gNs_ss {K : PySem.W.Frag} {ct : CT} {F H : Hp} : ∀ {is : List Nat} {ds : List D} {ws : List V} {e e1 : Dv.Env} {σ : L2.St} {Q : L2.St → Hp → Prop}, setM is ds e = some e1 → Reps K ct F ds ws → SS K ct F0 H0 p0 F H σ e → (∀ σ1, SS K ct F0 H0 p0 F H σ1 e1 → Q σ1 H) → gNs is ws σ H Q
  | [], [], _, _, _, _, _, h, .nil, o, k => by
    cases h
    exact ⟨rfl, k _ o⟩
  | i :: is, d :: ds, _, _, _, σ, _, h, .cons (v := v) r rr, o, k => by
    unfold setM at h
    exact ⟨_, _, rfl, gNs_ss h rr (o.set r) k⟩
  | [], _ :: _, _, _, _, _, _, h, _, _, _ => by cases h
  | _ :: _, [], _, _, _, _, _, h, _, _, _ => by cases h
/-- a, b = x, y -/
theorem S_par {i j : Nat} {x y : Str} {a b : Expr} {m n : M} {px py pt pos pt2 : Pos} {kt k2 : Nat} (hc : X.calm = true) (hN : X.N.Nodup) (hi : X.N[i]? = some x) (hj : X.N[j]? = some y) (hij : i ≠ j) (hx : X.env.scope.names.lookup x = some .local) (hy : X.env.scope.names.lookup y = some .local) (h1 : noStar a = true) (h2 : noStar b = true)
    (hw : swappedStores [.Tuple [.Name x px, .Name y py] kt pt] (.Tuple [a, b] k2 pt2) X.env = pure (some [x, y])) (ha : PE X a (rd X.K L.ct G cl mk (fun _ => E) m)) (hb : PE X b (rd X.K L.ct G cl mk (fun _ => E) n)) :
    PS X (.Assign [.Tuple [.Name x px, .Name y py] kt pt] (.Tuple [a, b] k2 pt2) pos) (rdS X.K L.ct G cl mk wf E F0 H0 p0 (.par i j m n)) := by
  refine PS.imp (ps_par hc hN hi hj hij hx hy (s_cons h1 ha (s_cons h2 hb s_nil)) hw) fun D σ H ⟨F, e, ss, h⟩ => ?_
  unfold evS at h
  refine ⟨F, e, ss.ok, ?_⟩
  cases q : evE G cl mk (.cons m (.cons n .nil)) e with
  | er x =>
    rw [q] at h
    exact fun H' cls dd ex xr => h H' cls dd (ss.st.hp.trans ex) xr
  | bad => rw [q] at h; exact h
  | ok z =>
    rw [q] at h
    unfold Out.of at h
    dsimp only at h
    intro F1 H1 vs st av rv
    by_cases nb : z.2 = .bor
    · rw [if_pos nb] at h; exact h.elim
    · rw [if_neg nb] at h
      have r := rv nb
      have hn := len_items (m := .cons m (.cons n .nil)) (n := 2) rfl q
      cases q2 : itemsOf z.1 with
      | nil => rw [q2] at hn; cases hn
      | cons d l =>
        cases l with
        | nil => rw [q2] at hn; cases hn
        | cons d2 l =>
          cases l with
          | cons _ _ => rw [q2] at hn; simp at hn
          | nil =>
            rw [q2] at h r
            cases r with
            | cons r1 r2 =>
              cases r2 with
              | cons r2 r3 =>
                cases r3
                exact ⟨_, _, rfl, h _ _ _ (((ss.step st).set r1).set r2)⟩
end
end Dv
end
section
set_option Elab.async false
set_option linter.all false
set_option maxRecDepth 100000
set_option maxHeartbeats 4000000
namespace Dv
open PySem PySem.Spec PyProof.Rows L2
variable [Tt]
section
variable {X : Cx} {L : Lk} {G : Gm} {cl : Nat → List D → Res (D × Kd)} {mk : Nat → List D → Res D} {wf : Nat} {E : XK} {F0 H0 : Hp} {p0 : Addr}
/-- another base: what is frozen by now -/
theorem Step.rebase {F0 H0 F1 H1 F H : Hp} (s : Step F0 H0 F1 H1) (t : Step F1 H0 F H) : Step F0 H0 F H :=
  ⟨s.fz.trans t.fz, t.hp, t.in_, fun a h => (t.new a h).elim (fun z => s.new a z) .inr⟩
theorem SS.rebase {K : PySem.W.Frag} {ct : CT} {F1 H1 F H : Hp} {σ : L2.St} {e : Dv.Env} (s : Step F0 H0 F1 H1) (t : SS K ct F1 H0 p0 F H σ e) : SS K ct F0 H0 p0 F H σ e := ⟨t.ok, s.rebase t.st, t.nw, t.sf⟩
theorem SS.base {K : PySem.W.Frag} {ct : CT} {F1 F H : Hp} {σ : L2.St} {e : Dv.Env} (x : Ex F1 F) (t : SS K ct F0 H0 p0 F H σ e) (s : Step F0 H0 F1 H) : SS K ct F1 H0 p0 F H σ e :=
  ⟨t.ok, ⟨x, t.st.hp, t.st.in_, fun a h => (t.st.new a h).elim (fun z => .inl (by
    cases q : F0 a with
    | none => exact (z q).elim
    | some o => rw [s.fz a o q]; exact fun z => nomatch z)) .inr⟩, t.nw, t.sf⟩
theorem PostS.rebase {K : PySem.W.Frag} {ct : CT} {F1 H1 : Hp} {Dn : Ends} {o : Out} (s : Step F0 H0 F1 H1) (h : PostS K ct E F0 H0 p0 Dn o) : PostS K ct E F1 H0 p0 Dn o := by
  cases o with
  | nx e => exact fun F H σ t => h F H σ (t.rebase s)
  | bk e => exact fun F H σ t => h F H σ (t.rebase s)
  | ct e => exact fun F H σ t => h F H σ (t.rebase s)
  | rt d k => exact fun F H v t kr => h F H v (s.rebase t) kr
  | er x => exact h
  | bad => exact h
/-- the same reading from any base -/
def rdSx (K : PySem.W.Frag) (ct : CT) (G : Gm) (cl : Nat → List D → Res (D × Kd)) (mk : Nat → List D → Res D) (wf : Nat) (E : XK) (s : S) : TS := fun Dn σ H => ∃ F0 H0 p0, rdS K ct G cl mk wf E F0 H0 p0 s Dn σ H
theorem pss_any {sts : List Stmt} {s : S} (h : ∀ F0 H0 p0, PSs X sts (rdS X.K L.ct G cl mk wf E F0 H0 p0 s)) : PSs X sts (rdSx X.K L.ct G cl mk wf E s) :=
  ⟨fun pins s σ H D I ⟨F0, H0, p0, q⟩ => (h F0 H0 p0).run pins s σ H D I q⟩
theorem gT_ss {K : PySem.W.Frag} {ct : CT} {F H : Hp} {σ : L2.St} {e e1 : Dv.Env} {d : D} {v : V} {tg : List Nat} {Q : L2.St → Hp → Prop} (h : bindT tg d e = some e1) (r : Rep K ct F d v) (o : SS K ct F0 H0 p0 F H σ e)
    (k : ∀ σ1, SS K ct F0 H0 p0 F H σ1 e1 → Q σ1 H) : gT K tg v σ H Q := by
  have tup : ∀ {is : List Nat}, (∀ i, is ≠ [i]) → bindT is d e = some e1 → (∀ σ1, SS K ct F0 H0 p0 F H σ1 e1 → Q σ1 H) → gTup K is.length (gNs is) v σ H Q := by
    intro is hn hb k
    obtain ⟨l, rfl, h2⟩ := bindT_tup hn hb
    cases r with
    | tup ht hr => exact ⟨_, _, rfl, o.ok.in_.st ht, by rw [← hr.length, setM_len h2], S_unp.gNs_ss h2 hr o k⟩
  unfold gT
  split
  · rename_i i
    unfold bindT at h
    cases h
    exact k _ (o.set r)
  · rename_i is hn
    exact tup (fun i z => hn i z) h k
theorem S_for {tgs : List Nat} {tg iter : Expr} {body : List Stmt} {it : M} {b : S} {pos : Pos} (hp : PassesOwn (model X.prog X.w) X.A X.env X.xe) (hc : X.calm = true) (hi : PI X tg iter (rdI X.K L.ct G cl mk (fun _ => E) it)) (hg : PG X tg (gT X.K tgs))
    (hb : ∀ F0 H0 p0, PSs X body (rdS X.K L.ct G cl mk wf E F0 H0 p0 b)) (hs : ∀ x, foldedSetIterable iter X.env x = pure x) :
    PS X (.For tg iter body [] pos) (rdS X.K L.ct G cl mk wf E F0 H0 p0 (.for_ tgs it b)) := PS.imp (ps_for hp hc hi hg (pss_any hb) hs) fun Dn σ H ⟨F, e, ss, h⟩ => by
  unfold evS at h
  refine ⟨F, e, ss.ok, ?_⟩
  cases q : evE G cl mk it e with
  | er x =>
    rw [q] at h
    exact fun H' cls dd ex xr => h H' cls dd (ss.st.hp.trans ex) xr
  | bad => rw [q] at h; exact h
  | ok x =>
    rw [q] at h
    unfold Out.of at h
    dsimp only at h
    by_cases nb : x.2 = .bor
    · rw [if_pos nb] at h; exact h.elim
    rw [if_neg nb] at h
    cases q2 : itemsD x.1 with
    | none => rw [q2] at h; exact h.elim
    | some l =>
    rw [q2] at h
    dsimp only at h
    refine ⟨nb, l, q2, fun F1 H1 J st w => ?_⟩
    have s01 : Step F0 H0 F1 H1 := ss.st.trans st
    refine ⟨fun i m σ' H' => i + m = l.length ∧ ∃ F' e', SS X.K L.ct F1 H0 p0 F' H' σ' e' ∧ PostS X.K L.ct E F1 H0 p0 Dn (forL (evS G cl mk wf b) tgs (l.drop i) e'),
      ⟨l.length, by omega, F1, e, (ss.step st).base (Ex.refl _) s01, h.rebase s01⟩, fun i m σ' H' ⟨em, F', e', sb, hf⟩ => ?_⟩
    obtain ⟨wt, we⟩ := w i F' H' sb.st.fz sb.ok.in_
    by_cases hi' : i < l.length
    · rw [List.drop_eq_getElem_cons hi'] at hf
      unfold forL at hf
      cases qb : bindT tgs l[i] e' with
      | none => rw [qb] at hf; exact hf.elim
      | some e1 =>
      rw [qb] at hf
      dsimp only at hf
      obtain ⟨hgo, hy⟩ := wt l[i] (List.getElem?_eq_getElem hi')
      refine .inr ⟨hgo, fun σ'' H'' => (i + 1) + (m - 1) = l.length ∧ ∃ F' e', SS X.K L.ct F1 H0 p0 F' H'' σ'' e' ∧ PostS X.K L.ct E F1 H0 p0 Dn (forL (evS G cl mk wf b) tgs (l.drop (i + 1)) e'),
        fun σ'' H'' z => ⟨m - 1, by omega, z⟩, fun y H2 hyl => ?_⟩
      obtain ⟨F2, s2, r2⟩ := hy y H2 hyl
      refine gT_ss qb r2 (sb.step s2) fun σ1 o1 => ⟨F1, H0, p0, F2, e1, o1, ?_⟩
      cases qe : evS G cl mk wf b e1 with
      | nx e2 => rw [qe] at hf; exact fun F'' H'' σ'' t => ⟨by omega, F'', e2, t, hf⟩
      | ct e2 => rw [qe] at hf; exact fun F'' H'' σ'' t => ⟨by omega, F'', e2, t, hf⟩
      | bk e2 => rw [qe] at hf; exact hf
      | rt d k => rw [qe] at hf; exact hf
      | er x => rw [qe] at hf; exact hf
      | bad => rw [qe] at hf; exact hf
    · have ei : i = l.length := by omega
      refine .inl ⟨we ei, ?_⟩
      have : l.drop i = [] := List.drop_of_length_le (by omega)
      rw [this] at hf
      exact hf F' H' σ' sb
theorem S_whl {c : Expr} {body : List Stmt} {t : M} {b : S} {pos : Pos} (hp : PassesOwn (model X.prog X.w) X.A X.env X.xe) (hc : PT X c (rdT X.K L.ct G cl mk (fun _ => E) t)) (hb : PSs X body (rdS X.K L.ct G cl mk wf E F0 H0 p0 b)) :
    PS X (.While c body [] pos) (rdS X.K L.ct G cl mk wf E F0 H0 p0 (.whl t b)) := PS.imp (ps_while hp hc hb) fun Dn σ H ⟨F, e, ss, h⟩ => by
  unfold evS at h
  refine ⟨fun m σ' H' => ∃ F' e', SS X.K L.ct F0 H0 p0 F' H' σ' e' ∧ PostS X.K L.ct E F0 H0 p0 Dn (whlL (evE G cl mk t) (evS G cl mk wf b) m e'), ⟨wf, F, e, ss, h⟩, fun m σ' H' ⟨F', e', sb, hf⟩ => ?_⟩
  cases m with
  | zero => exact hf.elim
  | succ m =>
    unfold whlL at hf
    refine ⟨F', e', sb.ok, ?_⟩
    cases q : evE G cl mk t e' with
    | er x =>
      rw [q] at hf
      exact fun H' cls dd ex xr => hf H' cls dd (sb.st.hp.trans ex) xr
    | bad => rw [q] at hf; exact hf
    | ok x =>
      rw [q] at hf
      unfold Out.of at hf
      dsimp only at hf
      rw [postT_ok]
      cases qt : truth x.1 with
      | none => rw [qt] at hf; exact hf.elim
      | some k =>
        rw [qt] at hf
        intro F1 H1 st
        cases k with
        | false =>
          rw [if_neg (by decide)]
          exact hf F1 H1 σ' (sb.step st)
        | true =>
          rw [if_pos rfl]
          dsimp only at hf
          refine ⟨fun σ'' H'' => ∃ F' e', SS X.K L.ct F0 H0 p0 F' H'' σ'' e' ∧ PostS X.K L.ct E F0 H0 p0 Dn (whlL (evE G cl mk t) (evS G cl mk wf b) m e'), fun σ'' H'' z => ⟨m, Nat.lt_succ_self m, z⟩, F1, e', sb.step st, ?_⟩
          cases qe : evS G cl mk wf b e' with
          | nx e2 => rw [qe] at hf; exact fun F'' H'' σ'' t => ⟨F'', e2, t, hf⟩
          | ct e2 => rw [qe] at hf; exact fun F'' H'' σ'' t => ⟨F'', e2, t, hf⟩
          | bk e2 => rw [qe] at hf; exact hf
          | rt d k => rw [qe] at hf; exact hf
          | er x => rw [qe] at hf; exact hf
          | bad => rw [qe] at hf; exact hf
/-- raise X('..'), an own class -/
theorem S_raise {e : Expr} {c : Nat} {pos : Pos} (hc : X.calm = true) (tk : Takes X (fun cls d _ H => E cls d H)) (he : PMk X e (fun _ H Q => Q (.ref (L.ct c)) none H)) :
    PS X (.Raise (some e) none pos) (rdS X.K L.ct G cl mk wf E F0 H0 p0 (.raise c)) := PS.imp (ps_raise hc tk he) fun Dn σ H ⟨F, e, ss, h⟩ => by
  unfold evS at h
  exact h H _ none ss.st.hp ⟨c, [], rfl, rfl, .inl ⟨rfl, rfl⟩⟩
/-- self.f = e -/
theorem S_setf (cf : ∀ c k, G.cls[c]? = some k → ClsF X.K L c k) {o value : Expr} {f : Str} {m : M} {pos pos' : Pos} (ho : PE X o (tVar 0)) (hv : PE X value (rd X.K L.ct G cl mk (fun _ => E) m)) (hs : swapsWith value (some (.Attribute o f pos')) pos.line X.env = pure false) :
    PS X (.Assign [.Attribute o f pos'] value pos) (rdS X.K L.ct G cl mk wf E F0 H0 p0 (.setf f m)) := PS.imp (ps_fld ho hv hs) fun Dn σ H ⟨F, e, ss, h⟩ => by
  unfold evS at h
  refine rd_out ss h fun F1 H1 d kd v st kr s1 h => ?_
  by_cases nb : kd = .bor
  · rw [if_pos nb] at h; exact h.elim
  rw [if_neg nb] at h
  cases q : getE e 0 with
  | none => rw [q] at h; exact h.elim
  | some c =>
    rw [q] at h
    obtain ⟨c, b⟩ := c
    cases b with
    | false => cases c <;> exact h.elim
    | true =>
      cases c <;> first | exact h.elim | skip
      rename_i c fs
      dsimp only at h
      split at h
      · rename_i hz
        obtain ⟨z1, z2⟩ := Bool.and_eq_true_iff.mp hz
        have z1 := of_decide_eq_true z1
        obtain ⟨hc, hn⟩ := clsF_f cf z2
        obtain ⟨F3, s3, e3, r3⟩ := kr.fix st nb
        obtain ⟨p0, hp, n, dx, ws, hH, hr⟩ := ss.ok.ow 0 _ q
        have n3 : F3 p0 = none := s3.keep n (not_nw hH)
        refine ⟨_, hp, p0, _, dx, ws, rfl, s3.hp.get hH, hc, hn, by rw [← hr.length]; omega, ?_⟩
        exact h F3 _ σ ((ss.step s3).mut q hp n3 ⟨dx, _, upd_same, RepF.putF r3 (hr.mono s3.fz)⟩ (fun _ _ _ => ⟨_, _, rfl⟩))
      · exact h.elim
end
end Dv
end
section
set_option Elab.async false
set_option linter.all false
set_option maxRecDepth 100000
set_option maxHeartbeats 4000000
/-! Defs: one call more. -/
namespace Dv
open PySem PySem.Spec PyProof.Rows L2
variable [Tt]
/-- what a def is called with, and what it comes to -/
def spD (K : PySem.W.Frag) (ct : CT) (cl : Nat → List D → Res (D × Kd)) (f np : Nat) : Sp := fun vs H Q E => vs.length = np ∧ ∃ F ds, In F H ∧ Reps K ct F ds vs ∧ Post K ct F H E Q (cl f ds)
/-- the same of __init__ -/
def spI (K : PySem.W.Frag) (ct : CT) (mk : Nat → List D → Res D) (c np : Nat) : Sp := fun vs H Q E => vs.length = np ∧ ∃ p vs' F H0 ds dx Q0, vs = .ref p :: vs' ∧ In F H0 ∧ H0 p = none ∧ H0 dx = none ∧ dx ≠ p ∧ H = upd (upd H0 dx (.own p)) p (.ins (ct c) dx []) ∧
  Reps K ct F ds vs' ∧ Post K ct F H0 E Q0 ((mk c ds).bind fun d => .ok (d, .frz)) ∧ ∀ H2, Q0 (.ref p) H2 → Q .non H2
structure CallsOk (P : Program) (w : World) (K : PySem.W.Frag) (mg : Str → Option Value) (base : Heap) (L : Lk) (cl : Nat → List D → Res (D × Kd)) (mk : Nat → List D → Res D) (k : Nat) : Prop where
  fn : ∀ f, (∀ ds, cl f ds = .bad) ∨ ∃ fd ps, Binds K fd ps [] ∧ (∀ ds, cl f ds ≠ .bad → ds.length = ps.length) ∧ FnOk P w K mg base (L2.CX P w) k (L.fa f) fd ps (spD K L.ct cl f ps.length)
  cs : ∀ c, (∀ ds, mk c ds = .bad) ∨ ∃ f fd ps, Mk K (L.ct c) f ∧ Binds K fd ps [] ∧ (∀ ds, mk c ds ≠ .bad → ds.length + 1 = ps.length) ∧ FnOk P w K mg base (L2.CX P w) k f fd ps (spI K L.ct mk c ps.length)
theorem binds_all {K : PySem.W.Frag} {fd : FuncData} {ps : List Str} (b : Binds K fd ps []) {s : Shared} {us : List Value} (k : K.In s.heap) (h : us.length = ps.length) : BindsTo s fd ⟨us, []⟩ (ps.zip us) := by
  have := b s us k (by rw [List.append_nil]; exact h)
  rw [List.append_nil] at this
  exact this
theorem good_of {X : Cx} {L : Lk} {cl : Nat → List D → Res (D × Kd)} {mk : Nat → List D → Res D} {k : Nat} {E : XK} (hc : CallsOk X.prog X.w X.K X.mg X.base L cl mk k) (hr : Room (k + 1) X.A) (calm : X.calm = true) (tk : Takes X fun cls d _ H => E cls d H) : Good X L cl mk (fun _ => E) := by
  have rm : ∀ A', (A' = X.A ∨ A' = X.A.in1) → Room k A' := fun A' h => by
    rcases h with rfl | rfl
    · exact hr.mono (Nat.le_succ _)
    · exact hr.in1
  have en : ∀ {pins s σ H} A', (A' = X.A ∨ A' = X.A.in1) → Inv X pins σ H s → Env0 X.prog X.w X.K X.mg X.base A' X.stack s H := fun A' h I => by
    rcases h with rfl | rfl
    · exact I.env0
    · exact I.env0.in1
  refine ⟨calm, hr.units, fun f => ?_, fun f => ?_, fun c => ?_⟩
  · intro A' hA pins s σ F H vs us ds Q I r i rp p
    rcases hc.fn f with hb | ⟨fd, ps, hbnd, ar, fn⟩
    · rw [hb] at p; exact p.elim
    have hl : vs.length = ps.length := by rw [← rp.length]; exact ar ds (fun z => by rw [z] at p; exact p)
    refine codeAny_mono (fn.run A' X.stack s H ⟨us, []⟩ us vs Q E (rm A' hA) (en A' hA I) (binds_all hbnd I.kIn (by rw [← r.length]; exact hl)) r ⟨hl, F, ds, i, rp, p⟩) fun r s' hq => ?_
    cases r with
    | error e => exact passes_call (E := E) tk (fun _ _ _ _ h => h) pins σ H s e s' I hq
    | ok fl =>
      cases fl with
      | ret u => exact I.after hq
      | next => exact False.elim hq
      | brk => exact False.elim hq
      | cont => exact False.elim hq
  · intro A' hA pins s σ F H vs us ds x Q I r i rp e p
    rcases hc.fn f with hb | ⟨fd, ps, hbnd, ar, fn⟩
    · rw [hb] at e; cases e
    have hl : vs.length = ps.length := by rw [← rp.length]; exact ar ds (fun z => by rw [z] at e; cases e)
    refine codeAny_mono (fn.run A' X.stack s H ⟨us, []⟩ us vs Q (fun _ _ _ => False) (rm A' hA) (en A' hA I) (binds_all hbnd I.kIn (by rw [← r.length]; exact hl)) r ⟨hl, F, ds, i, rp, by rw [e]; exact p⟩) fun r s' hq => ?_
    cases r with
    | error e =>
      obtain ⟨_, _, _, _, _, _, _, _, _, _, _, _, z⟩ := hq
      exact z.elim
    | ok fl =>
      cases fl with
      | ret u => exact I.after hq
      | next => exact False.elim hq
      | brk => exact False.elim hq
      | cont => exact False.elim hq
  · intro pins s σ F H vs us ds Q I r i rp p
    rcases hc.cs c with hb | ⟨f, fd, ps, M, hbnd, ar, fn⟩
    · rw [hb] at p; exact p.elim
    have hl : vs.length + 1 = ps.length := by rw [← rp.length]; exact ar ds (fun z => by rw [z] at p; exact p)
    exact run_make M fn hr hbnd .nil (fun pins σ H s e s' I h => passes_call (E := E) tk (fun _ _ _ _ h => h) pins σ H s e s' I h) I r fun x dx hx hd ne => ⟨by rw [List.append_nil]; exact hl, x, vs, F, H, ds, dx, Q, by rw [List.append_nil], i, hx, hd, ne, rfl, rp, p, fun H2 q => ⟨rfl, q⟩⟩
/-! ### the entry -/
theorem getE_env {np ns : Nat} {ds : List D} {i : Nat} {d : D} {b : Bool} (h : getE (envOf np ns ds) i = some (d, b)) : b = false ∧ ds[i]? = some d := by
  unfold getE envOf at h
  by_cases hi : i < ds.length
  · rw [List.getElem?_append_left (by simpa using hi), List.getElem?_map, List.getElem?_eq_getElem hi] at h
    rw [List.getElem?_eq_getElem hi]
    cases h
    exact ⟨rfl, rfl⟩
  · rw [List.getElem?_append_right (by simpa using hi), List.getElem?_replicate] at h
    split at h
    · rename_i q
      split at q
      · cases q; cases h
      · cases q
    · cases h
theorem start_get {N : List Str} {vs : List V} {i : Nat} {v : V} (h : vs[i]? = some v) : (L2.start N vs)[i]? = some (some v) := by
  have hi := (List.getElem?_eq_some_iff.mp h).1
  unfold L2.start
  rw [List.getElem?_append_left (by simpa using hi), List.getElem?_map, h]
  rfl
theorem start_ss {K : PySem.W.Frag} {ct : CT} {F H : Hp} {N : List Str} {vs : List V} {ds : List D} {np ns : Nat} {p0 : Addr} (i : In F H) (r : Reps K ct F ds vs) (h1 : ds.length = np) (h2 : N.length = ns) : SS K ct F H p0 F H (L2.start N vs) (envOf np ns ds) := by
  refine ⟨⟨i, ?_, fun j d h => ?_, fun j d h => ?_, fun j k d d' p h => ?_⟩, Step.refl i, fun j d p h => ?_, fun j c l h => ?_⟩
  · unfold L2.start envOf
    simp only [List.length_append, List.length_map, List.length_replicate]
    rw [r.length] at h1 ⊢
    omega
  · obtain ⟨_, e⟩ := getE_env h
    obtain ⟨v, hv, rv⟩ := r.get e
    exact ⟨v, start_get hv, rv⟩
  · cases (getE_env h).1
  · cases (getE_env h).1
  · cases (getE_env h).1
  · cases (getE_env h).1
theorem start_init {K : PySem.W.Frag} {ct : CT} {F H0 : Hp} {N : List Str} {vs : List V} {ds : List D} {np ns c : Nat} {p dx : Addr} (i : In F H0) (hp : H0 p = none) (hx : H0 dx = none) (ne : dx ≠ p) (r : Reps K ct F ds vs) (h1 : ds.length + 1 = np) (h2 : N.length = ns) (h3 : np ≤ ns) :
    SS K ct F H0 p F (upd (upd H0 dx (.own p)) p (.ins (ct c) dx [])) (L2.start N (.ref p :: vs)) (some (.ins c [], true) :: envOf (np - 1) (ns - 1) ds) := by
  have e1 : Ez H0 (upd H0 dx (.own p)) := .new i.tb hx
  have np' : upd H0 dx (.own p) p = none := by rw [upd_ne (Ne.symm ne)]; exact hp
  have e2 : Ez H0 (upd (upd H0 dx (.own p)) p (.ins (ct c) dx [])) := e1.trans (.new e1.tb np')
  have zero : ∀ {e : Env} {x : Option (D × Bool)}, getE (x :: e) 0 = x := fun {e x} => rfl
  have suc : ∀ {e : Env} {x : Option (D × Bool)} {j}, getE (x :: e) (j + 1) = getE e j := fun {e x j} => by unfold getE; rw [List.getElem?_cons_succ]
  have only : ∀ {j d}, getE (some (.ins c [], true) :: envOf (np - 1) (ns - 1) ds) j = some (d, true) → j = 0 ∧ d = .ins c [] := fun {j d} h => by
    cases j with
    | zero => rw [zero] at h; cases h; exact ⟨rfl, rfl⟩
    | succ j => rw [suc] at h; cases (getE_env h).1
  have s0 : (L2.start N (.ref p :: vs))[0]? = some (some (.ref p)) := start_get rfl
  refine ⟨⟨i.fwd e2, ?_, fun j d h => ?_, fun j d h => ?_, fun j k d d' q h h' _ _ => ?_⟩, ⟨Ex.refl _, e2, i.fwd e2, fun _ z => .inl z⟩, fun j d q h hq => ?_, fun j c' l h => ?_⟩
  · unfold L2.start envOf
    simp only [List.length_append, List.length_map, List.length_replicate, List.length_cons]
    have := r.length
    omega
  · cases j with
    | zero => rw [zero] at h; cases h
    | succ j =>
      rw [suc] at h
      obtain ⟨_, e⟩ := getE_env h
      obtain ⟨v, hv, rv⟩ := r.get e
      exact ⟨v, start_get (by rw [List.getElem?_cons_succ]; exact hv), rv⟩
  · obtain ⟨rfl, rfl⟩ := only h
    exact ⟨p, s0, i.none hp, dx, [], upd_same, .nil⟩
  · obtain ⟨rfl, _⟩ := only h
    obtain ⟨rfl, _⟩ := only h'
    rfl
  · obtain ⟨rfl, _⟩ := only h
    rw [s0] at hq
    cases hq
    exact .of hp
  · obtain ⟨rfl, _⟩ := only h
    exact s0
/-! ### one call more -/
/-- a def by its body, its code object told -/
theorem fun_code {P : Program} {w : World} {K : PySem.W.Frag} {mg : Str → Option Value} {base : Heap} {x qual : Str} {st : Stmt} {f : Addr} {fd : FuncData} {N ps : List Str} {k : Nat} {sp : Sp} (hF : Fun K x qual st f fd) (S : FnScope N ps (defScope st)) (ln : ∀ vs H Q E, sp vs H Q E → vs.length = ps.length)
    (hb : ∀ (A : Around) (outer : List PySem.Env) (s : Shared) (H : Hp) (vs : List V) (Q : VK) (E : XK), Room k (A.deeper (envOfC qual (defScope st) s.heap.objs.size f fd.code)) → sp vs H Q E →
      ∃ t, PSs (cxOf (L2.CX P w) P w K mg base N qual (defScope st) f fd.code A outer s H E) (defBody st) t ∧ t { nx := fun _ H' => Q .non H', rt := Q } (L2.start N vs) H) : FnOk P w K mg base (L2.CX P w) (k + 1) f fd ps sp := by
  obtain ⟨c1, c2, c3, c4, c5, c6, c7, c8, c9, e, e1, e2⟩ := hF.ex
  subst e
  exact fn_of e1 e2 S ln hb
/-- a def of the text: its body is read as the small language's -/
def DefOk (P : Program) (w : World) (K : PySem.W.Frag) (mg : Str → Option Value) (base : Heap) (L : Lk) (G : Gm) (wf : Nat) (f : Nat) (d : Df) : Prop :=
  ∃ x qual st fd N ps, Fun K x qual st (L.fa f) fd ∧ FnScope N ps (defScope st) ∧ Binds K fd ps [] ∧ ps.length = d.np ∧ N.length = d.ns ∧
    ∀ (cl : Nat → List D → Res (D × Kd)) (mk : Nat → List D → Res D) (k : Nat), CallsOk P w K mg base L cl mk k → ∀ (A : Around) (outer : List PySem.Env) (s : Shared) (H : Hp) (E : XK), Room (k + 3) (A.deeper (envOfC qual (defScope st) s.heap.objs.size (L.fa f) fd.code)) →
      ∀ (F0 H0 : Hp) (p0 : Addr), PSs (cxOf (L2.CX P w) P w K mg base N qual (defScope st) (L.fa f) fd.code A outer s H E) (defBody st) (rdS K L.ct G cl mk wf E F0 H0 p0 d.body)
section
variable {P : Program} {w : World} {K : PySem.W.Frag} {mg : Str → Option Value} {base : Heap} {L : Lk} {G : Gm} {wf : Nat}
theorem pre_le {N ps : List Str} {sc : Scope} (S : FnScope N ps sc) : ps.length ≤ N.length := by
  have := congrArg List.length S.pre
  rw [List.length_take] at this
  omega
theorem calls_step {k n : Nat} (hc : CallsOk P w K mg base L (evC G wf n).1 (evC G wf n).2 k) (hd : ∀ f d, G.defs[f]? = some d → DefOk P w K mg base L G wf f d) (hm : ∀ c kk, G.cls[c]? = some kk → Mk K (L.ct c) (L.fa kk.init)) :
    CallsOk P w K mg base L (evC G wf (n + 1)).1 (evC G wf (n + 1)).2 (k + 4) := by
  refine ⟨fun f => ?_, fun c => ?_⟩
  · cases q : G.defs[f]? with
    | none => exact .inl fun ds => by unfold evC; dsimp only; rw [q]
    | some d =>
      obtain ⟨x, qual, st, fd, N, ps, hF, S, hb, e1, e2, body⟩ := hd f d q
      have unf : ∀ ds, (evC G wf (n + 1)).1 f ds = if ds.length = d.np then (match evS G (evC G wf n).1 (evC G wf n).2 wf d.body (Dv.envOf d.np d.ns ds) with
          | .rt x k => .ok (x, k)
          | .nx _ => .ok (.non, .frz)
          | .er x => .er x
          | _ => .bad) else .bad := fun ds => by
        conv => lhs; unfold evC
        dsimp only
        rw [q]
        all_goals rfl
      refine .inr ⟨fd, ps, hb, fun ds h => ?_, fun_code hF S (fun _ _ _ _ h => h.1) fun A outer s H vs Q E hr hsp => ?_⟩
      · rw [unf] at h
        by_cases z : ds.length = d.np
        · rw [e1]; exact z
        · rw [if_neg z] at h; exact (h rfl).elim
      · obtain ⟨hl, F, ds, i, rp, p⟩ := hsp
        have hl2 : ds.length = d.np := by rw [rp.length, hl, e1]
        rw [unf, if_pos hl2] at p
        refine ⟨_, body _ _ k hc A outer s H E hr F H 0, F, _, start_ss i rp hl2 e2, ?_⟩
        cases z : evS G (evC G wf n).1 (evC G wf n).2 wf d.body (Dv.envOf d.np d.ns ds) with
        | rt x k => rw [z] at p; exact fun F' H' v st kr => p F' H' v st kr
        | nx e => rw [z] at p; exact fun F' H' σ ss => p F' H' .non ss.st (KRep.frz .non)
        | er x => rw [z] at p; exact p
        | bk e => rw [z] at p; exact p.elim
        | ct e => rw [z] at p; exact p.elim
        | bad => rw [z] at p; exact p.elim
  · cases q : G.cls[c]? with
    | none => exact .inl fun ds => by unfold evC; dsimp only; rw [q]
    | some kk =>
      cases q2 : G.defs[kk.init]? with
      | none => exact .inl fun ds => by unfold evC; dsimp only; rw [q]; dsimp only; rw [q2]
      | some d =>
      obtain ⟨x, qual, st, fd, N, ps, hF, S, hb, e1, e2, body⟩ := hd kk.init d q2
      have unf : ∀ ds, (evC G wf (n + 1)).2 c ds = if ds.length + 1 = d.np then (match evS G (evC G wf n).1 (evC G wf n).2 wf d.body (some (.ins c [], true) :: Dv.envOf (d.np - 1) (d.ns - 1) ds) with
            | .nx e => match getE e 0 with
              | some (.ins c' l, true) => .ok (.ins c' l)
              | _ => .bad
            | .er x => .er x
            | _ => .bad) else .bad := fun ds => by
        conv => lhs; unfold evC
        dsimp only
        rw [q]
        dsimp only
        rw [q2]
        all_goals rfl
      refine .inr ⟨L.fa kk.init, fd, ps, hm c kk q, hb, fun ds h => ?_, fun_code hF S (fun _ _ _ _ h => h.1) fun A outer s H vs Q E hr hsp => ?_⟩
      · rw [unf] at h
        by_cases z : ds.length + 1 = d.np
        · rw [e1]; exact z
        · rw [if_neg z] at h; exact (h rfl).elim
      · obtain ⟨hl, p, vs', F, H0, ds, dx, Q0, rfl, i, hp, hx, ne, rfl, rp, pp, fin⟩ := hsp
        have hl2 : ds.length + 1 = d.np := by rw [rp.length, ← e1]; exact hl
        rw [unf, if_pos hl2] at pp
        refine ⟨_, body _ _ k hc A outer s _ E hr F H0 p, F, _, start_init (c := c) i hp hx ne rp hl2 e2 (by rw [← e1, ← e2]; exact pre_le S), ?_⟩
        cases z : evS G (evC G wf n).1 (evC G wf n).2 wf d.body (some (.ins c [], true) :: Dv.envOf (d.np - 1) (d.ns - 1) ds) with
        | rt x k => rw [z] at pp; exact pp.elim
        | nx e =>
          rw [z] at pp
          dsimp only at pp
          intro F' H' σ ss
          split at pp
          · rename_i c' l g
            obtain ⟨a, ha, na, ow⟩ := ss.ok.ow 0 _ g
            have := ss.sf 0 c' l g
            rw [ha] at this
            cases this
            obtain ⟨F3, s3, e3, r3⟩ := frz_one ss.st ow (Nw.of hp)
            exact fin H' (pp F3 H' (.ref p) s3 (KRep.frz r3))
          · exact pp.elim
        | er x => rw [z] at pp; exact pp
        | bk e => rw [z] at pp; exact pp.elim
        | ct e => rw [z] at pp; exact pp.elim
        | bad => rw [z] at pp; exact pp.elim
theorem calls_ok (hd : ∀ f d, G.defs[f]? = some d → DefOk P w K mg base L G wf f d) (hm : ∀ c kk, G.cls[c]? = some kk → Mk K (L.ct c) (L.fa kk.init)) : ∀ n, CallsOk P w K mg base L (evC G wf n).1 (evC G wf n).2 (4 * n)
  | 0 => ⟨fun f => .inl fun ds => rfl, fun c => .inl fun ds => rfl⟩
  | n + 1 => by
    have := calls_step (calls_ok hd hm n) hd hm
    exact this
end
end Dv
end
section
set_option Elab.async false
set_option linter.all false
set_option maxRecDepth 100000
set_option maxHeartbeats 4000000
/-! A comprehension of a set of ints. -/
namespace Dv.Sc
open PySem PySem.Spec PyProof.Rows L2 PpSet
def emp (w : World) (D : Addr) : HO := SetO w D (fun _ => false) 0
def more (w : World) (D : Addr) (S : Int → Bool) (n : Nat) (c : Int) : HO := SetO w D (fun j => S j || decide (j = c)) (if S c = true then n else n + 1)
section
variable {X : Cx}
theorem add_int {ps : List (Addr × Obj)} {ρ : L2.St} {J : Hp} {z : Shared} {Er : Value → Shared → Prop} {D : Addr} {S : Int → Bool} {n : Nat} {y : Int} {tk : Tok} {Q : Value → Shared → Prop} (I : Inv X ps ρ J z) (hD : J D = some (SetO X.w D S n)) (hn : n + 1 < scanBound)
    (k : ∀ z', Inv X ps ρ (upd J D (more X.w D S n y)) z' → Q .none z') : wpAny (model X.prog X.w) X.A (call (.builtin "set.add") [.ref D, .int y tk]) Q Er z :=
  setR_add (setO_get I hD) hn fun h' sb nw => by
    have he : ∃ u, h'.get? D = some u := by
      have ⟨o, _, _, _, ho, _⟩ := nw
      exact ⟨o, ho⟩
    exact k _ (I.write (e := D) (t' := z.toks + 1) (by rw [hD]; trivial) (.inl rfl) (fun b u hb hu => by rw [sb.2 b hb]; exact hu) he (setO_new nw))
/-- the reading -/
def tSi (w : World) (wi : TI) (g : TG) (tt : TT) (te : TE) (vs : List Nat) : TE := fun ρ J0 Q => wi ρ J0 fun It J1 => ∀ D, J1 D = none → ∃ W : Nat → Nat → Hp → Prop, (∃ m, W 0 m (upd J1 D (emp w D))) ∧ ∀ i m J, W i m J →
  (It.stop i J ∧ Q (.ref D) J) ∨ (It.go i J ∧ ∃ Nx : Hp → Prop, (∀ J', Nx J' → ∃ m', m' < m ∧ W (i + 1) m' J') ∧ ∀ x J', It.yld i J x J' → g x (wipe ρ vs) J' fun ρ2 J2 => wipe ρ2 vs = wipe ρ vs ∧
    tt ρ2 J2 fun b J3 => if b = true then te ρ2 J3 fun y J4 => ∃ (c : Int) (S : Int → Bool) (n : Nat), y = .int c ∧ J4 D = some (SetO w D S n) ∧ n + 1 < scanBound ∧ Nx (upd J4 D (more w D S n c)) else Nx J3)
theorem core {ps : List (Addr × Obj)} {z : Shared} {ρ : L2.St} {J : Hp} {Q : VK} {elt tg iter : Expr} {ifs : List Expr} {scope : Scope} {own : List (PySem.Str × Nat)} {pos pos' : Pos} {wi : TI} {g : TG} {tt : TT} {te : TE} {use : Option (Value → Sem Unit)} {Qf : Value → Shared → Prop}
    (calm : X.calm = true) (nd : X.N.Nodup) (I : Inv X ps ρ J z) (pi : PI X tg iter wi) (ok : BlkOk X.N X.env.scope scope own)
    (pgs : ∀ (z : Shared) (J : Hp) (C : Addr) (cl : List (PySem.Str × Addr)) (fp : List Addr), PG (X.blk z J scope (compEnvC scope cl C X.env) fp) tg g)
    (pts : ∀ (z : Shared) (J : Hp) (C : Addr) (cl : List (PySem.Str × Addr)) (fp : List Addr), PTs (X.blk z J scope (compEnvC scope cl C X.env) fp) ifs tt)
    (pes : ∀ (z : Shared) (J : Hp) (C : Addr) (cl : List (PySem.Str × Addr)) (fp : List Addr), PE (X.blk z J scope (compEnvC scope cl C X.env) fp) elt te)
    (hs : ∀ x, foldedSetIterable iter X.env x = pure x) (h : tSi X.w wi g tt te (own.map (·.2)) ρ J Q)
    (fin : ∀ D C z' m J', Inv X ps ρ J' z' → Q (.ref D) J' → z'.heap.Ns C m → FpOk X ps J' C → compPost (model X.prog X.w) X.A X.xe use Qf (.ref D) C (.ok .next) z') :
    wpAny (model X.prog X.w) X.A (comprehension (.SetComp elt [⟨tg, iter, ifs, 0⟩] scope pos) scope X.env pos' (newSet (.type "set")) false (eval iter X.env) use) Qf X.xe z := by
  have hfree : ∀ y ∈ scope.names, y.2 = .free → ∃ c, X.env.cells.lookup y.1 = some c := fun y hy e => (ok.free y hy e).elim (fun k => I.ok.has _ (.inl k)) fun k => I.ok.has _ (.inr k)
  refine wpAny_comprehension_free (use := use) rfl hs (closure_ok hfree) ok.kind (fun y hy e => by rw [ok.uniq y hy, e]) (thn (pi.run ps z ρ J _ I h) fun xv z1 hx => thn hx fun itv z2 h2 => ?_)
  obtain ⟨it, fp, tn, It, J2, e, I2, T, st2, f2, q⟩ := h2
  subst e
  refine newSet_ok (newEnv_comp ?_)
  generalize hD : z2.heap.objs.size = D
  have nD : J2 D = none := I2.hok.fresh (Nat.le_of_eq hD)
  obtain ⟨W, ⟨m0, w0⟩, turn⟩ := q D nD
  generalize hz3 : ({ z2 with heap := z2.heap.push { cls := .type "set", dict := none, data := .set #[] 0 (.fresh 0 0 (!X.w.params.followText "set-order")) } } : Shared) = z3
  have hp3 : z3.heap = z2.heap.push { cls := .type "set", dict := none, data := .set #[] 0 (.fresh 0 0 (!X.w.params.followText "set-order")) } := by rw [← hz3]
  have I3 : Inv X ps ρ (upd J2 D (emp X.w D)) z3 := by
    rw [← hz3]
    refine I2.laid (t' := z2.toks) (fun b o e => Heap.get?_push_of_some _ e) (Nat.le_of_eq hD) ?_
    rw [← hD]
    exact setO_new (setR_fresh X.w)
  have lt2 : ∀ b ∈ fp, b < z2.heap.objs.size := fun b hb => let ⟨o, e, _⟩ := T.obj _ _ st2 b hb; Heap.lt_size e
  have f3 : ∀ b ∈ fp, FpOk X ps (upd J2 D (emp X.w D)) b ∧ b < z3.heap.objs.size := fun b hb => by
    have hlt := lt2 b hb
    have nb : b ≠ D := fun e => by rw [e, ← hD] at hlt; exact Nat.lt_irrefl _ hlt
    refine ⟨⟨by rw [upd_ne nb]; exact (f2 b hb).1, (f2 b hb).2⟩, ?_⟩
    rw [hp3, Heap.size_push]
    exact Nat.lt_succ_of_lt hlt
  have st3 : tn 0 z3.heap := T.keep _ _ _ st2 fun b _ o e => by rw [hp3]; exact Heap.get?_push_of_some _ e
  have I4 := block_start I3 ok nd f3
  generalize hJ3 : upd J2 D (emp X.w D) = J3 at *
  generalize hcl : cellsFrom (z3.heap.objs.size + 1) scope.names (cloFrom X.env.cells scope.names []) = cl at *
  have pg := pgs z3 J3 z3.heap.objs.size cl fp
  have pt := pts z3 J3 z3.heap.objs.size cl fp
  have pe := pes z3 J3 z3.heap.objs.size cl fp
  show codeAny _ _ (.compStart (.SetComp elt [⟨tg, iter, ifs, 0⟩] scope pos) 0 (.ref it) (.ref D) (compEnvC scope cl z3.heap.objs.size X.env)) (compPost (model X.prog X.w) X.A X.xe use Qf (.ref D) z3.heap.objs.size) { z3 with heap := pushCells (z3.heap.push { cls := .type "dict", data := .dict #[] }) scope.names }
  have nfp : ∀ b ∈ fp, J3 b = none := fun b hb => (f3 b hb).1.1
  generalize hce : compEnvC scope cl z3.heap.objs.size X.env = ce at I4 pg pt pe ⊢
  have cL : ce.locals = z3.heap.objs.size := by rw [← hce]; rfl
  generalize hz4 : ({ z3 with heap := pushCells (z3.heap.push { cls := .type "dict", data := .dict #[] }) scope.names } : Shared) = z4 at I4 ⊢
  have st4 : tn 0 z4.heap := T.keep _ _ _ st3 fun b _ o e => by rw [← hz4]; exact pushCells_keeps _ _ _ _ (Heap.get?_push_of_some _ e)
  have stat : ∀ {ρ' : L2.St} {J' : Hp} {z' : Shared}, Inv (X.blk z3 J3 scope ce fp) [] ρ' J' z' → (∀ b ∈ fp, J' b = none) → ∀ b ∈ fp, FpOk (X.blk z3 J3 scope ce fp) [] J' b := fun {ρ' J' z'} I' hn b hb =>
    ⟨hn b hb, (I'.ok.exf b hb).1, I'.ok.exfs b hb, .inl hb, fun x c e => (I'.ok.exf b hb).2 x c e, fun p hp => by simp at hp⟩
  refine codeAny_compStart_set ?_ (T.self X.A 0 _ _ _ st4 ?_)
  all_goals
    refine compLoopS_any (fun n z' => ∃ i J', Inv (X.blk z3 J3 scope ce fp) [] (wipe ρ (own.map (·.2))) J' z' ∧ tn i z'.heap ∧ (∀ b ∈ fp, J' b = none) ∧ W i n J') ?_ m0 ⟨0, J3, I4, st4, nfp, w0⟩
    rintro n z5 ⟨i, J5, I5, st5, n5, w5⟩
    rcases turn i n J5 w5 with ⟨stop, qq⟩ | ⟨go, Nx, hNx, step⟩
    · have td := T.done (X.blk z3 J3 scope ce fp) rfl rfl rfl calm i [] z5 _ J5 (fun _ _ => False) I5 (stat I5 n5) st5 stop
      refine thnF td fun r z6 ⟨hr, I6⟩ => ?_
      subst hr
      have I7 : Inv X ps ρ J5 z6 := I3.call' (ch := fp) I6.os I6.base I6.hok I6.bare fun b hb => ⟨(f3 b hb).1.2.2.2.1, (f3 b hb).1.2.1, (f3 b hb).1.2.2.2.2.1, (f3 b hb).1.2.2.2.2.2⟩
      have nC : J5 z3.heap.objs.size = none := by
        have u : J5 ce.locals = none := I6.free
        rw [← cL]
        exact u
      obtain ⟨m, hm, _⟩ := I6.loc
      have hm : z6.heap.Ns ce.locals m := hm
      rw [cL] at hm
      exact fin D z3.heap.objs.size z6 m J5 I7 qq hm (I3.fpOk (Nat.le_refl _) nC)
    · have ti := T.item (X.blk z3 J3 scope ce fp) rfl rfl rfl calm i [] z5 _ J5 (fun _ _ => False) I5 (stat I5 n5) st5 go
      refine thnF ti fun r z6 ⟨u, hr, h6⟩ => ?_
      subst hr
      refine thnF h6 fun _ z7 ⟨x, J7, I7, r7, y7, st7, n7⟩ => ?_
      have I7' := I7.pinned (stat I7 n7) (T.obj _ _ st7)
      refine thnF (pg.run _ z7 _ J7 x u _ I7' r7 (step x J7 y7)) fun _ z8 ⟨ρ8, J8, I8, hw8, q8⟩ => ?_
      refine thnF (pt.run _ z8 ρ8 J8 _ I8 q8) fun b z9 ⟨J9, I9, q9⟩ => ?_
      have go' : ∀ {z' : Shared} {J' : Hp}, Inv (X.blk z3 J3 scope ce fp) ([] ++ pinsAt fp z7.heap) ρ8 J' z' → Nx J' → ∃ m, m < n ∧ ∃ i J', Inv (X.blk z3 J3 scope ce fp) [] (wipe ρ (own.map (·.2))) J' z' ∧ tn i z'.heap ∧ (∀ b ∈ fp, J' b = none) ∧ W i m J' := fun {z' J'} I' nx => by
        obtain ⟨m', hm, w'⟩ := hNx J' nx
        have pin' : ∀ b ∈ fp, ∀ o, z7.heap.get? b = some o → z'.heap.get? b = some o ∧ J' b = none := fun b hb o e =>
          have q := I'.pin (b, o) (List.mem_append_right _ (List.mem_append_right _ (mem_pinsAt hb e)))
          ⟨q.1, q.2.1⟩
        have hl : (wipe ρ (own.map (·.2))).length = ρ8.length := by rw [← hw8, wipe_length]
        refine ⟨m', hm, i + 1, J', (I'.unpinned (pins := [])).weak hl (fun j v e => ?_), T.keep _ _ _ st7 fun b hb o e => (pin' b hb o e).1, fun b hb => ?_, w'⟩
        · rw [← hw8] at e
          exact (wipe_some e).1
        · obtain ⟨o, e, _⟩ := T.obj _ _ st7 b hb
          exact (pin' b hb o e).2
      cases b with
      | false =>
        simp only [Bool.false_eq_true, if_false] at q9 ⊢
        exact go' I9 q9
      | true =>
        simp only [if_true] at q9 ⊢
        refine thnF (pe.run _ z9 ρ8 J9 _ I9 q9) fun yv z10 ⟨y, J10, I10, r10, c, S0, n0, ey, hD10, hz10, nx⟩ => ?_
        subst ey
        obtain ⟨tk, rfl⟩ := (show ∃ tk, yv = Value.int c tk from r10)
        exact add_int (X := X.blk z3 J3 scope ce fp) I10 hD10 hz10 fun z11 I11 => go' I11 nx
theorem pe_si {elt tg iter : Expr} {ifs : List Expr} {scope : Scope} {own : List (PySem.Str × Nat)} {pos : Pos} {wi : TI} {g : TG} {tt : TT} {te : TE} (calm : X.calm = true) (nd : X.N.Nodup) (pi : PI X tg iter wi) (ok : BlkOk X.N X.env.scope scope own)
    (pgs : ∀ (z : Shared) (J : Hp) (C : Addr) (cl : List (PySem.Str × Addr)) (fp : List Addr), PG (X.blk z J scope (compEnvC scope cl C X.env) fp) tg g)
    (pts : ∀ (z : Shared) (J : Hp) (C : Addr) (cl : List (PySem.Str × Addr)) (fp : List Addr), PTs (X.blk z J scope (compEnvC scope cl C X.env) fp) ifs tt)
    (pes : ∀ (z : Shared) (J : Hp) (C : Addr) (cl : List (PySem.Str × Addr)) (fp : List Addr), PE (X.blk z J scope (compEnvC scope cl C X.env) fp) elt te)
    (hs : ∀ x, foldedSetIterable iter X.env x = pure x := by intro _; rfl) : PE X (.SetComp elt [⟨tg, iter, ifs, 0⟩] scope pos) (tSi X.w wi g tt te (own.map (·.2))) := by
  refine ⟨fun ps z ρ J Q I h => ?_⟩
  rw [eval_SetComp]
  refine core calm nd I pi ok pgs pts pes hs h fun D C z' m J' I' q hn f => ⟨m, hn, fun h'' sb => ?_⟩
  obtain ⟨f0, f1, f2, f3, f4, f5⟩ := f
  exact ⟨.ref D, J', I'.turned (t' := z'.toks) (fun b o hb e => by rw [sb.2 b hb]; exact e) f0 f1 f3 f4 f5, rfl, q⟩
end
end Dv.Sc
end
section
set_option Elab.async false
set_option linter.all false
set_option maxRecDepth 100000
set_option maxHeartbeats 4000000
/-! Class methods, static ones, a name that holds a class, sets. -/
namespace Dv
open PySem PySem.Spec PyProof.Rows L2
variable [Tt]
section
variable {X : Cx} {L : Lk} {G : Gm} {cl : Nat → List D → Res (D × Kd)} {mk : Nat → List D → Res D} {E : L2.St → XK}
theorem s_dead {e : Expr} : PE X e (rd X.K L.ct G cl mk E .dead) := ⟨fun pins s σ H Q I h => by
  obtain ⟨F, e', o', h⟩ := h
  exact h.elim⟩
theorem s_deadT {e : Expr} : PT X e (rdT X.K L.ct G cl mk E .dead) := ⟨fun pins s σ H Q I h => by
  obtain ⟨F, e', o', h⟩ := h
  exact h.elim⟩
theorem s_deadW {e : Expr} : PW X e (rdT X.K L.ct G cl mk E .dead) := ⟨fun wh pins s σ H Q I h => by
  obtain ⟨F, e', o', h⟩ := h
  exact h.elim⟩
/-- the class by its name, then the arguments -/
theorem cls_args {F H : Hp} {σ : L2.St} {e : Dv.Env} {m : M} {g : List D → Res (D × Kd)} {Q : VK} {R : List V → Hp → Prop} (o : SOk X.K L.ct F H σ e) (h : Post X.K L.ct F H (E σ) Q ((evE G cl mk m e).bind fun x => if x.2 = .bor then .bad else g (itemsOf x.1)))
    (k : ∀ F1 H1 ds vs, Step F H F1 H1 → Reps X.K L.ct F1 ds vs → Post X.K L.ct F1 H1 (E σ) Q (g ds) → R vs H1) : rdA X.K L.ct G cl mk E m σ H R :=
  rdA1 o h fun F1 H1 x vs st _ rv _ h => by
    by_cases nb : x.2 = .bor
    · rw [if_pos nb] at h; exact h.elim
    · rw [if_neg nb] at h
      exact k F1 H1 _ vs st (rv nb) (Post.step st h)
theorem s_clm (g : Good X L cl mk E) (cf : ∀ c k, G.cls[c]? = some k → ClsF X.K L c k) {x name : Str} {p apos pos : Pos} {e : Expr} {es : List Expr} {n : M} {c : Nat} (hg : Gl X x) (hm : X.mg x = some (.ref (L.ct c))) (hd : (x == ("__debug__" : Str)) = false)
    (hl : (apos.endLine == pos.line) = true) (hs : (e :: es).all noStar = true) (hn : (e :: es).length < 30) (has : PA X (e :: es) (rdA X.K L.ct G cl mk E n)) : PE X (.Call (.Attribute (.Name x p) name apos) (e :: es) [] pos) (rd X.K L.ct G cl mk E (.clm c name n)) := by
  refine ⟨fun pins s σ H Q I h => ?_⟩
  obtain ⟨F, e', o', h⟩ := h
  unfold evE at h
  cases q : lookM G c name with
  | none => rw [q] at h; exact h.elim
  | some i =>
    rw [q] at h
    dsimp only at h
    have hk : ∃ k, G.cls[c]? = some k ∧ k.cms.lookup name = some i := by
      unfold lookM at q
      split at q
      · rename_i k hk; exact ⟨k, hk, q⟩
      · cases q
    obtain ⟨k, hk, hc⟩ := hk
    obtain ⟨mc, pr, cr, cm⟩ := (cf c k hk).cm name i hc
    refine PySem.W.methodCall_KW (thn ((pe_glob (v := .ref (L.ct c)) hg hm rfl hd).run pins s σ H (fun v H1 => v = .ref (L.ct c) ∧ H1 = H) I ⟨rfl, rfl⟩) fun u s1 ⟨v, H1, I1, r1, e1, e2⟩ => ?_) (meth_eval (by rfl) hl hs hn)
    subst e1
    subst e2
    obtain rfl : u = Value.ref (L.ct c) := r1
    refine ClX.getmethcm_ok I1 cr cm fun s2 I2 => ?_
    obtain ⟨h1, h2⟩ := Bool.and_eq_true_iff.mp (List.all_cons ▸ hs)
    refine ClX.callwith_cm I2 (ClX.base_none I1 (Nat.le_refl _)) cm.fi (thn (has.run pos _ s2 σ H1 _ I2 (cls_args (R := fun vs H2 => ∃ F2 ds, In F2 H2 ∧ Reps X.K L.ct F2 ds vs ∧ Post X.K L.ct F2 H2 (E σ) Q (cl i (.cl c :: ds))) o' h fun F1 H1 ds vs st r h => ⟨F1, ds, st.in_, r, h⟩)) fun us s3 ⟨vs, H2, I3, rv, F2, ds, i2, r2, h3⟩ => ⟨⟨ClX.pin_at I3, I3.kIn⟩, ?_⟩) (star_cons h1) (star_any h2)
    have z := g.call i X.A (.inl rfl) _ s3 σ F2 H2 (.ref (L.ct c) :: vs) (.ref (L.ct c) :: us) (.cl c :: ds) Q I3 (.cons rfl rv) i2 (.cons .cl r2) h3
    have z2 : wpAny (model X.prog X.w) X.A (call (.ref s1.heap.objs.size) us) (EP X ((s1.heap.objs.size, PySem.W.methodObj (.ref (L.fa i)) (.ref (L.ct c))) :: pins) σ Q) X.xe s3 := wpAny_call (PySem.W.method_call (ClX.pin_at I3) z)
    exact thn z2 fun _ _ y => ClX.unpinE y
theorem s_stm (g : Good X L cl mk E) (cf : ∀ c k, G.cls[c]? = some k → ClsF X.K L c k) {x name : Str} {p apos pos : Pos} {c : Nat} (hg : Gl X x) (hm : X.mg x = some (.ref (L.ct c))) (hd : (x == ("__debug__" : Str)) = false)
    (hl : (apos.endLine == pos.line) = true) : PE X (.Call (.Attribute (.Name x p) name apos) [] [] pos) (rd X.K L.ct G cl mk E (.stm c name .nil)) := by
  refine ⟨fun pins s σ H Q I h => ?_⟩
  obtain ⟨F, e', o', h⟩ := h
  unfold evE at h
  cases q : lookS G c name with
  | none => rw [q] at h; exact h.elim
  | some i =>
    rw [q] at h
    dsimp only at h
    have hk : ∃ k, G.cls[c]? = some k ∧ k.sts.lookup name = some i := by
      unfold lookS at q
      split at q
      · rename_i k hk; exact ⟨k, hk, q⟩
      · cases q
    obtain ⟨k, hk, hc⟩ := hk
    obtain ⟨mc, cr, sm⟩ := (cf c k hk).sm name i hc
    obtain ⟨pr, at_, rest, hrec⟩ := sm.at_
    refine PySem.W.methodCall_KW (thn ((pe_glob (v := .ref (L.ct c)) hg hm rfl hd).run pins s σ H (fun v H1 => v = .ref (L.ct c) ∧ H1 = H) I ⟨rfl, rfl⟩) fun u s1 ⟨v, H1, I1, r1, e1, e2⟩ => ?_) (meth_eval (es := []) (by rfl) hl rfl (by decide))
    subst e1
    subst e2
    obtain rfl : u = Value.ref (L.ct c) := r1
    refine PySem.W.method_cls I1.kIn cr.ga (PySem.W.cls_bind I1.kIn cr.rd at_ (wpAny_call (PySem.W.sm_get (s := { s1 with toks := s1.toks + 1 }) I1.kIn hrec (PySem.W.handed_on rfl ?_))))
    exact PySem.W.callWith_K0 I1.kIn sm.kp ((g.call i).wp (us := []) (vs := []) (I1.tok _) Paired.nil o'.in_ Reps.nil h)
theorem s_mkv (g : Good X L cl mk E) (cf : ∀ c k, G.cls[c]? = some k → ClsF X.K L c k) {x : Str} {p pos : Pos} {e : Expr} {es : List Expr} {i : Nat} {m : M} (hN : X.N[i]? = some x) (hv : Vis X.env.scope x) (hd : (x == ("__debug__" : Str)) = false) (hcd : (x == ("__classdict__" : Str)) = false)
    (hs : (e :: es).all noStar = true) (ha : PA X (e :: es) (rdA X.K L.ct G cl mk E m)) : PE X (.Call (.Name x p) (e :: es) [] pos) (rd X.K L.ct G cl mk E (.mkv i m)) := by
  obtain ⟨h1, h2⟩ := Bool.and_eq_true_iff.mp (List.all_cons ▸ hs)
  refine ⟨fun pins s σ H Q I h => ?_⟩
  obtain ⟨F, e', o', h⟩ := h
  unfold evE at h
  cases q : getE e' i with
  | none => rw [q] at h; exact h.elim
  | some y =>
    obtain ⟨d, b⟩ := y
    rw [q] at h
    cases d <;> first | exact h.elim | skip
    rename_i c
    cases b with
    | true => exact h.elim
    | false =>
    dsimp only at h
    obtain ⟨v, hv', r⟩ := o'.fz i _ q
    cases r
    by_cases hk : (G.cls[c]?).isSome = true
    · rw [if_pos hk] at h
      obtain ⟨k, hk⟩ := Option.isSome_iff_exists.mp hk
      refine wpAny_Call_Name_kw (thn ((pe_var (pos := p) (i := i) hN hv hd hcd).run pins s σ H (fun v H1 => v = .ref (L.ct c) ∧ H1 = H) I ⟨_, hv', rfl, rfl⟩) fun u s1 ⟨v, H1, I1, r1, e1, e2⟩ => ?_)
      subst e1
      subst e2
      obtain rfl : u = Value.ref (L.ct c) := r1
      refine PySem.W.callWith_K (h₀ := X.base) I.ok.mod.kin (cf c k hk).kp (thn (ha.run pos pins s1 σ H1 _ I1 (cls_args (R := fun vs H2 => ∃ F2 ds, In F2 H2 ∧ Reps X.K L.ct F2 ds vs ∧ Post X.K L.ct F2 H2 (E σ) Q ((mk c ds).bind fun d => .ok (d, .frz))) o' h fun F1 H1 ds vs st r h => ⟨F1, ds, st.in_, r, h⟩)) fun us s2 ⟨vs, H2, I2, rv, F2, ds, i2, r2, h3⟩ => ⟨I2.kIn, ?_⟩) (star_cons h1) (star_any h2)
      exact g.make c pins s2 σ F2 H2 vs us ds Q I2 rv i2 r2 h3
    · rw [if_neg hk] at h
      exact h.elim
/-! ### sets -/
theorem mem_dedup {i : Int} : ∀ {l : List Int}, i ∈ dedup l ↔ i ∈ l
  | [] => Iff.rfl
  | j :: r => by
    unfold dedup
    by_cases q : r.contains j = true
    · rw [if_pos q, mem_dedup]
      have q := List.contains_iff_mem.mp q
      exact ⟨List.mem_cons_of_mem _, fun z => (List.mem_cons.mp z).elim (fun z => z ▸ q) id⟩
    · rw [if_neg q, List.mem_cons, List.mem_cons, mem_dedup]
theorem dedup_nodup : ∀ l : List Int, (dedup l).Nodup
  | [] => List.nodup_nil
  | j :: r => by
    unfold dedup
    by_cases q : r.contains j = true
    · rw [if_pos q]; exact dedup_nodup r
    · rw [if_neg q]
      refine List.nodup_cons.mpr ⟨fun z => q (List.contains_iff_mem.mpr (mem_dedup.mp z)), dedup_nodup r⟩
theorem dedup_len : ∀ l : List Int, (dedup l).length ≤ l.length
  | [] => Nat.le_refl _
  | j :: r => by
    unfold dedup
    by_cases q : r.contains j = true
    · rw [if_pos q]; exact Nat.le_succ_of_le (dedup_len r)
    · rw [if_neg q]; exact Nat.succ_le_succ (dedup_len r)
theorem dedup_snoc {l : List Int} {c : Int} : (dedup (l ++ [c])).length = if decide (c ∈ l) = true then (dedup l).length else (dedup l).length + 1 := by
  by_cases q : c ∈ l
  · rw [if_pos (decide_eq_true q)]
    refine ((List.perm_ext_iff_of_nodup (dedup_nodup _) (dedup_nodup _)).mpr fun a => ?_).length_eq
    rw [mem_dedup, mem_dedup, List.mem_append, List.mem_singleton]
    exact ⟨fun z => z.elim id fun z => z ▸ q, .inl⟩
  · rw [if_neg (by simpa using q)]
    have : (c :: dedup l).Nodup := List.nodup_cons.mpr ⟨fun z => q (mem_dedup.mp z), dedup_nodup l⟩
    refine ((List.perm_ext_iff_of_nodup (dedup_nodup _) this).mpr fun a => ?_).length_eq
    rw [mem_dedup, List.mem_append, List.mem_singleton, List.mem_cons, mem_dedup]
    exact ⟨fun z => z.symm, fun z => z.symm⟩
theorem lt_of_sorted : ∀ {l : List Int}, l.Pairwise (· ≤ ·) → l.Nodup → l.Pairwise (· < ·) := fun {l} a b => by
  have := List.Pairwise.and a b
  exact this.imp fun {x y} h => by omega
theorem sorted_uniq : ∀ {l l' : List Int}, l.Pairwise (· < ·) → l'.Pairwise (· < ·) → (∀ k, k ∈ l ↔ k ∈ l') → l = l'
  | [], [], _, _, _ => rfl
  | [], a :: r, _, _, h => by have := (h a).mpr List.mem_cons_self; cases this
  | a :: r, [], _, _, h => by have := (h a).mp List.mem_cons_self; cases this
  | a :: r, b :: t, p, q, h => by
    obtain ⟨p1, p2⟩ := List.pairwise_cons.mp p
    obtain ⟨q1, q2⟩ := List.pairwise_cons.mp q
    have e : a = b := by
      have h1 := List.mem_cons.mp ((h a).mp List.mem_cons_self)
      have h2 := List.mem_cons.mp ((h b).mpr List.mem_cons_self)
      rcases h1 with h1 | h1
      · exact h1
      · rcases h2 with h2 | h2
        · exact h2.symm
        · have := p1 b h2
          have := q1 a h1
          omega
    subst e
    rw [sorted_uniq p2 q2 fun k => ?_]
    have hk := h k
    rw [List.mem_cons, List.mem_cons] at hk
    refine ⟨fun z => ?_, fun z => ?_⟩
    · rcases hk.mp (.inr z) with e | z'
      · subst e; exact absurd (p1 k z) (by omega)
      · exact z'
    · rcases hk.mpr (.inr z) with e | z'
      · subst e; exact absurd (q1 k z) (by omega)
      · exact z'
theorem sorted_is {ns l : List Int} (h1 : l.Pairwise (· < ·)) (h2 : ∀ k, k ∈ l ↔ k ∈ ns) : l = isort (dedup ns) := by
  have pm := isort_perm (dedup ns)
  refine sorted_uniq h1 (lt_of_sorted (isort_sorted _) (pm.nodup_iff.mpr (dedup_nodup _))) fun k => ?_
  rw [h2, pm.mem_iff, mem_dedup]
theorem intOf_snoc {l : List D} {d : D} {r : List D} {ms : List Int} : (l ++ d :: r).mapM intOf = some ms → ∃ c, d = .int c := by
  induction l generalizing ms with
  | nil =>
    intro h
    rw [List.nil_append, List.mapM_cons] at h
    cases d <;> first | exact ⟨_, rfl⟩ | cases h
  | cons x l ih =>
    intro h
    rw [List.cons_append, List.mapM_cons] at h
    cases q : intOf x with
    | none => rw [q] at h; cases h
    | some n =>
      rw [q] at h
      cases q2 : (l ++ d :: r).mapM intOf with
      | none => rw [q2] at h; cases h
      | some ms => exact ih q2
end
end Dv
namespace Dv
open PySem PySem.Spec PyProof.Rows L2
variable [Tt]
section
variable {X : Cx} {L : Lk} {G : Gm} {cl : Nat → List D → Res (D × Kd)} {mk : Nat → List D → Res D} {E : L2.St → XK}
theorem map_int_inj : ∀ {a b : List Int}, a.map D.int = b.map D.int → a = b
  | [], [], _ => rfl
  | [], _ :: _, h => by cases h
  | _ :: _, [], h => by cases h
  | x :: a, y :: b, h => by
    rw [List.map_cons, List.map_cons] at h
    injection h with h1 h2
    injection h1 with h1
    rw [h1, map_int_inj h2]
/-- a set is no code object -/
theorem setO_code {w : World} {D c : Addr} {S : Int → Bool} {n : Nat} {q : Str} : SetO w D S n ≠ LamX.CodeO c q := fun z => by
  unfold SetO LamX.CodeO at z
  have z := HO.ext.inj z
  let o : Obj := { cls := .none, data := .fields #[.none, .str q 0] }
  let h : Heap := { objs := Array.replicate (c + 1) o }
  have all : ∀ a u, h.get? a = some u → u = o := fun a u hu => by
    have hu : (match (Array.replicate (c + 1) o)[a]? with
      | some ⟨_, _, .freed, _⟩ => none
      | o => o) = some u := hu
    by_cases q : a < c + 1
    · rw [Array.getElem?_replicate, if_pos q] at hu
      exact (Option.some.inj hu).symm
    · rw [Array.getElem?_replicate, if_neg q] at hu
      cases hu
  have hc : h.get? c = some o := by
    show (match (Array.replicate (c + 1) o)[c]? with
      | some ⟨_, _, .freed, _⟩ => none
      | o => o) = some o
    rw [Array.getElem?_replicate, if_pos (Nat.lt_succ_self c)]
  have r : SetR w h D S n := (congrFun z h).mpr ⟨o, _, 0, hc, rfl, rfl⟩
  obtain ⟨u, es, ep, t, hu, _, hd, _⟩ := r
  rw [all _ _ hu] at hd
  cases hd
theorem ints_map {l : List D} {ms : List Int} : l.mapM intOf = some ms → l = ms.map D.int := by
  induction l generalizing ms with
  | nil => intro h; cases h; rfl
  | cons x l ih =>
    intro h
    rw [List.mapM_cons] at h
    cases x <;> first | (cases h; done) | skip
    rename_i n
    cases q2 : l.mapM intOf with
    | none => rw [q2] at h; cases h
    | some ms' => rw [q2] at h; cases h; rw [ih q2]; rfl
theorem sset_read {F H : Hp} {σ : L2.St} {e : Dv.Env} {vs tg : List Nat} {it t c : M} {Q : VK} {tt : TT} {te : TE} (o : SOk X.K L.ct F H σ e) (hv : ∀ i ∈ tg, i ∈ vs)
    (ht : ∀ σ H Q, rdT X.K L.ct G cl mk E0 t σ H Q → tt σ H Q) (hc : ∀ σ H Q, rd X.K L.ct G cl mk E0 c σ H Q → te σ H Q)
    (h : Post X.K L.ct F H (E σ) Q (evE G cl mk (.sset vs tg it t c) e)) : Sc.tSi X.w (rdI X.K L.ct G cl mk E it) (gT X.K tg) tt te vs σ H fun y H' => rSortedSet X.w [y] H' Q := by
  unfold evE at h
  refine ⟨F, e, o, ?_⟩
  cases q : evE G cl mk it e with
  | er x => rw [q] at h; exact h
  | bad => rw [q] at h; exact h
  | ok x =>
    rw [q] at h
    simp only [Res.bind] at h
    by_cases nb : x.2 = .bor
    · rw [if_pos nb] at h; exact h.elim
    rw [if_neg nb] at h
    cases q2 : itemsD x.1 with
    | none => rw [q2] at h; exact h.elim
    | some l =>
    rw [q2] at h
    dsimp only at h
    by_cases big : 1000 < l.length
    · rw [if_pos big] at h; exact h.elim
    rw [if_neg big] at h
    cases q3 : compL (evE G cl mk t) (evE G cl mk c) tg (wipeE e vs) l with
    | er x => exact (compL_er q3).elim
    | bad => rw [q3] at h; exact h.elim
    | ok ds =>
    rw [q3] at h
    dsimp only at h
    cases q4 : bltD .sset [.lst ds] with
    | none => rw [q4] at h; exact h.elim
    | some z =>
    rw [q4] at h
    unfold bltD at q4
    cases q5 : ds.mapM intOf with
    | none => simp only [q5] at q4; cases q4
    | some ns =>
    simp only [q5] at q4
    by_cases h64 : ns.length < 64
    · rw [if_pos h64] at q4
      cases q4
      have eds := ints_map q5
      have ln : ds.length = ns.length := by rw [eds, List.length_map]
      refine ⟨nb, l, q2, fun F1 H1 J st w Dl hD => ?_⟩
      have hF1 : F1 Dl = none := st.in_.none hD
      refine ⟨fun i m H' => i + m = l.length ∧ ∃ F' n0 rest, Step F1 H1 F' H' ∧ F' Dl = none ∧ H' Dl = some (SetO X.w Dl (fun k => decide (k ∈ n0)) (dedup n0).length) ∧ compL (evE G cl mk t) (evE G cl mk c) tg (wipeE e vs) (l.drop i) = .ok rest ∧ ds = n0.map D.int ++ rest,
        ⟨l.length, by omega, F1, [], ds, ⟨Ex.refl _, .new st.in_.tb hD, st.in_.new hD, fun _ z => .inl z⟩, hF1, ?_, q3, rfl⟩, fun i m H' ⟨em, F', n0, rest, st', nF, hl, qr, ed⟩ => ?_⟩
      · rw [upd_same]
        rfl
      obtain ⟨wt, we⟩ := w i F' H' st'.fz st'.in_
      have hle : n0.length + rest.length = ns.length := by rw [← ln, ed, List.length_append, List.length_map]
      have dl := dedup_len n0
      by_cases hi : i < l.length
      · have e1 : l.drop i = l[i] :: l.drop (i + 1) := List.drop_eq_getElem_cons hi
        rw [e1] at qr
        obtain ⟨env1, b, bb, hb, htt, htr, rest'⟩ := compL_cons qr
        obtain ⟨hgo, hy⟩ := wt l[i] (List.getElem?_eq_getElem hi)
        refine .inr ⟨hgo, fun H'' => (i + 1) + (m - 1) = l.length ∧ ∃ F' n0 rest, Step F1 H1 F' H'' ∧ F' Dl = none ∧ H'' Dl = some (SetO X.w Dl (fun k => decide (k ∈ n0)) (dedup n0).length) ∧ compL (evE G cl mk t) (evE G cl mk c) tg (wipeE e vs) (l.drop (i + 1)) = .ok rest ∧ ds = n0.map D.int ++ rest,
          fun H'' z => ⟨m - 1, by omega, z⟩, fun y H2 hyl => ?_⟩
        obtain ⟨F2, s2, r2⟩ := hy y H2 hyl
        have s02 : Step F H F2 H2 := (st.trans st').trans s2
        have o2 : SOk X.K L.ct F2 H2 (wipe σ vs) (wipeE e vs) := (o.step s02).wipe vs
        refine gT_ok hb r2 o2 fun σ1 o1 hw => ⟨?_, ?_⟩
        · rw [hw vs hv]
          exact wipe_wipe vs
        have ntS : ∀ {S : Int → Bool} {n : Nat} ps, SetO X.w Dl S n ≠ .tbl ps := fun ps z => by unfold SetO at z; cases z
        have ncS : ∀ {S : Int → Bool} {n : Nat} c q, SetO X.w Dl S n ≠ LamX.CodeO c q := fun c q => setO_code
        have nD2 : F2 Dl = none := s2.keep nF (not_nw hl (fun ps => ntS ps))
        have lD2 := s2.hp.get hl (fun ps => ntS ps)
        refine ht _ _ _ ⟨F2, env1, o1, ?_⟩
        rw [htt, postT_ok, htr]
        intro F3 H3 s3
        have nD3 : F3 Dl = none := s3.keep nD2 (not_nw lD2 (fun ps => ntS ps))
        have lD3 := s3.hp.get lD2 (fun ps => ntS ps)
        rcases rest' with ⟨rfl, qr'⟩ | ⟨rfl, x, ds', hx, nbx, qr', er⟩
        · refine iteF ⟨by omega, F3, n0, rest, (st'.trans s2).trans s3, nD3, lD3, qr', ed⟩
        · refine iteT (hc _ _ _ ⟨F3, env1, o1.step s3, ?_⟩)
          rw [hx]
          intro F4 H4 v s4 kr
          rw [er] at ed
          obtain ⟨c, ec⟩ := intOf_snoc (l := n0.map D.int) (d := x.1) (r := ds') (ms := ns) (by rw [← ed]; exact q5)
          have av := kr.1.any
          rw [ec] at av
          obtain rfl := av.int
          have nD4 : F4 Dl = none := s4.keep nD3 (not_nw lD3 (fun ps => ntS ps))
          have lD4 := s4.hp.get lD3 (fun ps => ntS ps)
          have s14 := ((st'.trans s2).trans s3).trans s4
          have hl3 : n0.length < 64 := by
            rw [er, List.length_cons] at hle
            omega
          refine ⟨c, _, _, rfl, lD4, Nat.lt_of_lt_of_le (show (dedup n0).length + 1 < 66 by omega) (by decide), by omega, F4, n0 ++ [c], ds', ?_, nD4, ?_, qr', by rw [ed, ec]; simp⟩
          · exact ⟨s14.fz, s14.hp.put (.of hD) lD4 (fun ps => ntS ps) ncS, s14.in_.put nD4 lD4 (fun ps => ntS ps) ncS, s14.new⟩
          · rw [upd_same]
            unfold Sc.more
            have e1 : (fun j => (decide (j ∈ n0) || decide (j = c))) = fun k => decide (k ∈ n0 ++ [c]) := by
              funext j
              by_cases z1 : j ∈ n0 <;> by_cases z2 : j = c <;> simp [z1, z2]
            rw [dedup_snoc, e1]
      · have ei : i = l.length := by omega
        refine .inl ⟨we ei, ?_⟩
        have : l.drop i = [] := List.drop_of_length_le (by omega)
        rw [this] at qr
        cases qr
        rw [List.append_nil] at ed
        have en : n0 = ns := by
          have := ed.symm.trans eds
          exact map_int_inj this
        subst en
        refine ⟨Dl, _, _, rfl, hl, by omega, fun ms p h1 h2 h3 hp => ?_⟩
        have em : ms = isort (dedup n0) := sorted_is h1 fun k => by rw [h2]; simp
        subst em
        have hFp : F' p = none := st'.in_.none hp
        exact h F' (upd H' p (.lst ((isort (dedup n0)).map V.int))) (.ref p) ((st.trans st').trans ⟨Ex.refl _, .new st'.in_.tb hp, st'.in_.new hp, fun _ z => .inl z⟩) ⟨⟨p, rfl, hFp, _, upd_same, ints_rep _⟩, fun _ a ea => by cases ea; exact (st.trans st').hp.none hp⟩
    · rw [if_neg h64] at q4
      cases q4
/-- sorted({c for tg in it if t}) -/
theorem s_sset (g : X.calm = true) {elt tg iter : Expr} {ifs : List Expr} {scope : Scope} {own : List (Str × Nat)} {p pos pos' : Pos} {tgs vs : List Nat} {it t c : M} {tt : TT} (hgl : Gl X "sorted") (hmg : X.mg "sorted" = none) (hN : X.N.Nodup) (hi : PI X tg iter (rdI X.K L.ct G cl mk E it)) (ok : BlkOk X.N X.env.scope scope own) (ev : own.map (·.2) = vs) (hv : ∀ i ∈ tgs, i ∈ vs)
    (hg : ∀ (s : Shared) (H : Hp) (C : Addr) (cl : List (Str × Addr)) (fp : List Addr), PG (X.blk s H scope (compEnvC scope cl C X.env) fp) tg (gT X.K tgs)) (ht : ∀ (s : Shared) (H : Hp) (C : Addr) (cl : List (Str × Addr)) (fp : List Addr), PTs (X.blk s H scope (compEnvC scope cl C X.env) fp) ifs tt)
    (he : ∀ (s : Shared) (H : Hp) (C : Addr) (cl' : List (Str × Addr)) (fp : List Addr), PE (X.blk s H scope (compEnvC scope cl' C X.env) fp) elt (rd X.K L.ct G cl mk E0 c)) (hs : ∀ x, foldedSetIterable iter X.env x = pure x)
    (htt : ∀ σ H Q, rdT X.K L.ct G cl mk E0 t σ H Q → tt σ H Q) : PE X (.Call (.Name "sorted" p) [.SetComp elt [⟨tg, iter, ifs, 0⟩] scope pos] [] pos') (rd X.K L.ct G cl mk E (.sset vs tgs it t c)) := by
  refine PE.imp (pe_callB (cr_sortedSet g) hgl hmg (by decide +kernel) (pa_cons (Sc.pe_si g hN hi ok hg ht he hs) pa_nil)) fun σ H Q h => ?_
  obtain ⟨F, e, o, h⟩ := h
  have z := sset_read (tt := tt) (te := rd X.K L.ct G cl mk E0 c) o hv htt (fun _ _ _ z => z) h
  rw [ev]
  exact z
end
end Dv
end
section
set_option Elab.async false
set_option linter.all false
set_option maxRecDepth 100000
set_option maxHeartbeats 4000000
/-! set(l), l a list of ints. -/
namespace Dv.Sl
open PySem PySem.Spec PyProof.Rows L2 PpSet
abbrev nS (w : World) : Obj := { cls := .type "set", dict := none, data := .set #[] 0 (.fresh 0 0 (!w.params.followText "set-order")) }
section
variable {P : Program} {w : World} {A : Around} {E : Value → Shared → Prop} {z : Shared}
theorem set_of_list {l : Addr} {its : Array Value} (ns : List Int) {Q : Value → Shared → Prop} (hh : A.handled = none) (hl : z.heap.IsList l its) (hi : IntsAre its.toList ns) (room : ns.length + 1 < scanBound)
    (k : ∀ (h' : Heap) (tk c : Nat), SetR w h' z.heap.objs.size (fun j => decide (j ∈ ns)) c → c ≤ ns.length → (∀ b o, z.heap.get? b = some o → h'.get? b = some o) → Q (.ref z.heap.objs.size) { z with heap := h', toks := tk }) :
    wpAny (model P w) A (call (.type "set") [.ref l]) Q E z := by
  have len : its.size = ns.length := by have q := IntsAre.length hi; rwa [Array.length_toList] at q
  obtain ⟨c, tl, hmro⟩ := F.called_set.mro
  have a1 := F.called_set.made
  have a2 := F.called_set.sub
  refine wpAny_call (codeAny_of_tree ?_)
  show wpAny _ _ (callAny (.type "set") _) _ _ _
  refine wpAny_pure ⟨Code.quiet_builtin _ (by decide +kernel), codeAny_builtin F.entry_type_call ?_⟩
  rw [Around.under_plain (weight_type_call_type "set" [.ref l] []) rfl]
  have a3 := F.called_set.notType
  have a4 := F.called_set.canCreate
  have a5 := F.typeCall_set_1 (.ref l)
  repeat (any_goals (first | assumption | wp_step))
  refine codeAny_mono (code_set_led1 (.ref l) (E := E) (Q₁ := fun u z₁ => u = .ref z.heap.objs.size ∧ z₁ = { z with heap := z.heap.push (nS w) }) ⟨rfl, rfl⟩) fun r z₁ hr => ?_
  cases r with
  | error e => exact hr
  | ok fl =>
    cases fl with
    | next => exact hr.elim
    | brk => exact hr.elim
    | cont => exact hr.elim
    | ret u =>
      obtain ⟨rfl, rfl⟩ := hr
      have gS : (z.heap.push (nS w)).get? z.heap.objs.size = some (nS w) := Heap.get?_push_size _ rfl
      have tS : Shared.TypeIs { z with heap := z.heap.push (nS w) } (.ref z.heap.objs.size) "set" := ⟨_, gS, rfl⟩
      have a6 := F.called_set.init.lookup
      have a7 := F.called_set.init.bind (.ref z.heap.objs.size)
      repeat (any_goals (first | assumption | wp_step))
      refine codeAny_mono (codeAny_call_builtin (R := wants (fun r z₂ => r = .none ∧ ∃ h' tk c, z₂ = { z with heap := h', toks := tk } ∧ SetR w h' z.heap.objs.size (fun j => decide (j ∈ ns)) c ∧ c ≤ ns.length ∧
        ∀ b o, z.heap.get? b = some o → h'.get? b = some o) E) F.called_set.init.plain F.entry_set_init (check_set_init_1 tS ?_)) fun r₂ z₂ hr₂ => ?_
      · obtain ⟨⟨oc, od, oda, osl⟩, gl, el, nl, dl⟩ := hl
        dsimp only at el dl
        subst el
        subst dl
        have gl' : (z.heap.push (nS w)).get? l = some { cls := .type "list", dict := od, data := .seq its nl, slots := osl } := Heap.get?_push_of_some _ gl
        have b1 := F.sub_list_set
        have b2 := F.sub_list_frozenset
        have b3 : (Value.type "list" == Value.type "dict") = false := by decide
        have isl : (z.heap.push (nS w)).IsList l its := ⟨_, gl', rfl, nl, rfl⟩
        unfold Builtin.«set.__init__» noKeywords Builtin.Frozenset.updateFrom
        generalize hPI : pyIter = PI
        wp_walk
        subst hPI
        refine wpAny_pyIter_list isl (wpAny_bind (wpAny_runValue ?_))
        have lt : l < z.heap.objs.size := Heap.lt_size gl
        have hd : A.in1.in1.in1.handled = none := by simp [hh]
        have sz : (z.heap.push (nS w)).objs.size = z.heap.objs.size + 1 := Heap.size_push ..
        have lt2 : ∀ b, b < z.heap.objs.size → b ≠ (z.heap.push (nS w)).objs.size := fun b h => Nat.ne_of_lt (by rw [sz]; exact Nat.lt_succ_of_lt h)
        have n1 := lt2 l lt
        have n2 : z.heap.objs.size ∉ [(z.heap.push (nS w)).objs.size, l] := fun q => by
          rcases List.mem_cons.mp q with q | q
          · exact Nat.ne_of_lt (by rw [sz]; exact Nat.lt_succ_self _) q
          · exact Nat.ne_of_gt lt (List.mem_singleton.mp q)
        have val : ∀ (i : Nat) (v : Value), its[i]? = some v → ∃ k t, ns[i]? = some k ∧ v = .int k t := fun i v hv => by
          have lti : i < ns.length := by rw [← len]; exact (Array.getElem?_eq_some_iff.mp hv).1
          obtain ⟨t, e⟩ := PyProof.Rows.IntsAre.int_at hi i v (by rw [Array.getElem?_toList]; exact hv)
          exact ⟨ns[i], t, List.getElem?_eq_getElem lti, by rw [e, List.getD_eq_getElem?_getD, List.getElem?_eq_getElem lti]; rfl⟩
        refine set_update_ints ((Walks.list hd _ l n1 its).toS) z.heap.objs.size n2 ns len room val (its.size - 0) 0 _ (by omega) (Nat.zero_le _) ⟨⟨_, Heap.get?_push_size _ rfl, rfl, rfl⟩, isl.push _⟩ ⟨0, Nat.le_refl 0, setR_new_at (Heap.get?_push_of_some _ gS)⟩ ?_
        intro z' c' mv hc' hS'
        obtain ⟨h', g2, d', tk', os'⟩ := z'
        have e1 : g2 = z.gens := mv.gens
        have e2 : d' = z.drawn := mv.drawn
        have e3 : os' = z.os := mv.os
        subst e1 e2 e3
        show wpAny _ _ _ _ _ _
        refine wpAny_pure ?_
        show wpAny _ _ (ret Value.none) _ _ _
        rw [len] at hc'
        refine wpAny_pure ⟨rfl, h', tk', c', rfl, hS', hc', fun b o e => mv.heap b o (fun q => ?_) (Heap.get?_push_of_some _ (Heap.get?_push_of_some _ e))⟩
        have lb : b < z.heap.objs.size := Heap.lt_size e
        rcases List.mem_cons.mp q with q | q
        · exact Nat.ne_of_lt lb q
        · exact lt2 b lb (List.mem_singleton.mp q)
      · cases r₂ with
        | error e => exact hr₂
        | ok fl₂ =>
          cases fl₂ <;> first | exact hr₂.elim | skip
          obtain ⟨rfl, h', tk, c', rfl, hS', hc', hk'⟩ := hr₂
          repeat (any_goals (first | assumption | wp_step))
          exact k _ _ _ hS' hc' hk'
end
section
variable {X : Cx}
/-- set(l) -/
def rSetL (K : PySem.W.Frag) (w : World) : List V → Hp → VK → Prop := fun vs H Q => ∃ (a : Addr) (ns : List Int), vs = [.ref a] ∧ SqL K H a (ns.map V.int) ∧ ns.length ≤ 1000 ∧
  ∀ (p : Addr) (c : Nat), H p = none → c ≤ ns.length → Q (.ref p) (upd H p (SetO w p (fun j => decide (j ∈ ns)) c))
theorem cr_setL (hc : X.calm = true) : CallR X (.type "set") (rSetL X.K X.w) := by
  intro pins s σ H vs us Q I r h
  obtain ⟨a, ns, rfl, hS, hn, q⟩ := h
  rw [Vals.ref1 r]
  obtain ⟨its, rl, pl, hz⟩ := I.list hS
  refine set_of_list ns (I.ok.hd hc) pl.isList rl.ints (Nat.lt_of_le_of_lt (Nat.succ_le_succ hn) (by decide)) fun h' tk c R hle kp => ?_
  exact ⟨.ref s.heap.objs.size, _, I.laid (t' := tk) kp (Nat.le_refl _) (setO_new R), rfl, q _ c (I.hok.fresh (Nat.le_refl _)) hle⟩
end
end Dv.Sl
end
section
set_option Elab.async false
set_option linter.all false
set_option maxRecDepth 100000
set_option maxHeartbeats 4000000
/-! sorted(set(l)); a def that gets a lambda. -/
namespace Dv
open PySem PySem.Spec PyProof.Rows L2
variable [Tt]
section
variable {X : Cx} {L : Lk} {G : Gm} {cl : Nat → List D → Res (D × Kd)} {mk : Nat → List D → Res D} {E : L2.St → XK}
theorem s_sset2 (calm : X.calm = true) {a : Expr} {p p2 pos pos2 : Pos} {l : M} (hg : Gl X "sorted") (hm : X.mg "sorted" = none) (hg2 : Gl X "set") (hm2 : X.mg "set" = none) (h1 : noStar a = true) (ha : PA X [a] (rdA X.K L.ct G cl mk E l)) :
    PE X (.Call (.Name "sorted" p) [.Call (.Name "set" p2) [a] [] pos2] [] pos) (rd X.K L.ct G cl mk E (.blt .sset l)) := by
  refine PE.imp (pe_callB (cr_sortedSet calm) hg hm (by decide +kernel) (pa_cons (pe_callTy (Sl.cr_setL calm) hg2 hm2 (by decide +kernel) ha (he := star_cons h1)) pa_nil)) fun σ H Q h => ?_
  obtain ⟨F, e, o, h⟩ := h
  unfold evE at h
  refine rdA1 o h fun F1 H1 y vs st av _ _ h => ?_
  obtain ⟨y, ky⟩ := y
  replace h : Post X.K L.ct F H (E σ) Q (ofO (bltD .sset (itemsOf y))) := h
  have av : AVals X.K L.ct F1 H1 (itemsOf y) vs := av
  generalize itemsOf y = ys at h av
  match ys, h, av with
  | [.lst ds], h, av =>
    obtain ⟨v, rfl, a1⟩ := av.one
    unfold bltD at h
    cases q5 : ds.mapM intOf with
    | none => simp only [q5] at h; exact h.elim
    | some ns =>
      simp only [q5] at h
      by_cases h64 : ns.length < 64
      · rw [if_pos h64] at h
        obtain ⟨b, ws, rfl, hb, rw'⟩ := a1.lst st.in_
        have ew := ints_of q5 rw'
        subst ew
        refine ⟨b, ns, rfl, .of hb, by omega, fun p c hp hc => ⟨p, _, c, rfl, upd_same, by omega, fun ms p' g1 g2 g3 hp' => ?_⟩⟩
        have em : ms = isort (dedup ns) := sorted_is g1 fun k => by rw [g2]; simp
        subst em
        have s1 : Step F1 H1 F1 (upd H1 p (SetO X.w p (fun j => decide (j ∈ ns)) c)) := ⟨Ex.refl _, .new st.in_.tb hp, st.in_.new hp, fun _ z => .inl z⟩
        have s2 := (st.trans s1)
        obtain ⟨s3, k3⟩ := KRep.fresh (o := .lst ((isort (dedup ns)).map V.int)) (d := .lst ((isort (dedup ns)).map .int)) s2.in_ hp' ⟨_, upd_same, ints_rep _⟩
        exact h _ _ _ (s2.trans s3) (k3.back s2)
      · rw [if_neg h64] at h
        exact h.elim
  | [], h, _ => exact h.elim
  | [.non], h, _ => exact h.elim
  | [.bl _], h, _ => exact h.elim
  | [.int _], h, _ => exact h.elim
  | [.str _], h, _ => exact h.elim
  | [.tup _], h, _ => exact h.elim
  | [.dic _], h, _ => exact h.elim
  | [.dit _], h, _ => exact h.elim
  | [.ins _ _], h, _ => exact h.elim
  | [.cl _], h, _ => exact h.elim
  | [.scr _], h, _ => exact h.elim
  | x :: y :: r, h, _ =>
    have e : bltD .sset (x :: y :: r) = none := by unfold bltD; split <;> simp_all
    rw [e] at h
    exact h.elim
/-! ### a def that gets a lambda -/
/-- what is made of what comes back -/
def postH (K : PySem.W.Frag) : Option Str → V → Hp → VK → Prop
  | none, v, H, Q => Q v H
  | some f, v, H, Q => ∃ p C dx ws u, v = .ref p ∧ H p = some (.ins C dx ws) ∧ Cls K C ∧ NoAttr K C f ∧ ws.lookup f = some u ∧ Q u H
theorem pe_attI {e : Expr} {te : TE} {f : Str} {pos : Pos} (hb : baseOk e = true) (he : PE X e te) : PE X (.Attribute e f pos) (fun σ H Q => te σ H fun v H' => postH X.K (some f) v H' Q) := by
  refine ⟨fun pins s σ H Q I h => ?_⟩
  refine attr_of (base_ok hb) (thn (he.run pins s σ H _ I h) fun u s1 ⟨v, H1, I1, r1, p, C, dx, ws, w, ev, hp, hc, hn, hw, q⟩ => ?_)
  subst ev
  cases r1
  exact getattr_ok I1 hp hc hn hw fun u s' I' ru => ⟨w, H1, I', ru, q⟩
/-- try: return a() (or its attribute), except C: return v -/
def TTh (K : PySem.W.Frag) (CS : Addr) (v : V) (at_ : Option Str) : (XK → Hp → VK → Prop) → Hp → VK → Prop := fun tl H Q =>
  tl (fun cls _ H' => ∃ b, PySem.W.exmOne K cls (.ref CS) = some b ∧ (b = true → Q v H') ∧ (b = false → False)) H fun u H' => postH K at_ u H' Q
def retOf (a : Str) (at_ : Option Str) (p1 p2 p3 : Pos) : Expr := match at_ with
  | none => .Call (.Name a p1) [] [] p2
  | some f => .Attribute (.Call (.Name a p1) [] [] p2) f p3
theorem pe_retOf {Y : Cx} {a : Str} {at_ : Option Str} {p1 p2 p3 : Pos} {te : TE} (hs : (a != ("super" : Str)) = true) (h : PE Y (.Call (.Name a p1) [] [] p2) te) : PE Y (retOf a at_ p1 p2 p3) (fun σ H Q => te σ H fun v H' => postH Y.K at_ v H' Q) := by
  cases at_ with
  | none => exact h
  | some f => exact pe_attI hs h
theorem gives_hd {Ng : List Str} {x a e q : Str} {sg : Scope} {g CS : Addr} {cdg : Value} {at_ : Option Str} {v : V} {ce : Expr} {p1 p2 p2' p3 p4 p6 p7 p8 : Pos} (hge : sg.names.lookup e = some .globalImplicit) (hme : X.mg e = some (.ref CS)) (hde : (e == ("__debug__" : Str)) = false)
    (h0 : ∀ f : Addr, (L2.start Ng [V.ref f])[0]? = some (some (V.ref f))) (hce : ∀ Y : Cx, PE Y ce (tC v)) (hsu : (a != ("super" : Str)) = true) :
    LamX.GivesTo X Ng x sg g cdg [.Try [.Return (some (retOf a at_ p1 p2 p2')) p3] [.ExceptHandler (some (.Name e p4)) none [.Return (some ce) p6] p7] [] [] p8] a q (TTh X.K CS v at_) := by
  intro f c' s H Q tl act hc h
  let Y := (cxOf C8.CX0 X.prog X.w X.K X.mg X.base Ng x sg g cdg X.A X.stack s H C8.E0).nox
  have hgl : Gl Y e := hge
  refine ⟨_, pss_one (ps_try_only (X := Y) (c := .ref CS) (tb := fun W D σ H => ∃ Ech : XK, (∀ cls d σ' H', Ech cls d H' → W cls d σ' H') ∧ σ[0]? = some (some (.ref f)) ∧ H c' = some (LamX.CodeO c' q) ∧ tl Ech H fun u H' => postH X.K at_ u H' D.rt)
    rfl rfl ⟨hgl, hde, .inl hme⟩ LamX.takes0 (fun W pn xe tk _ => ⟨fun pins s' σ H' D I hh => ?_⟩) (fun a oe cls d pn _ _ => pss_one (ps_ret (hce _)))), ?_⟩
  · obtain ⟨Ech, hW, h1, h2, h3⟩ := hh
    exact (pss_one (ps_ret (pos := p3) (pe_retOf (at_ := at_) (p3 := p2') hsu (act W pn xe Ech p1 p2 tk hW)))).run pins s' σ H' D I ⟨h1, h2, h3⟩
  · exact ⟨fun cls _ H' => ∃ b, PySem.W.exmOne X.K cls (.ref CS) = some b ∧ (b = true → Q v H') ∧ (b = false → False), fun cls d σ' H' ⟨b, e1, e2, e3⟩ => ⟨b, e1, fun hb a _ => e2 hb, fun hb => e3 hb⟩, h0 f, hc, h⟩
/-- what of the text such a def must have -/
structure HdF (K : PySem.W.Frag) (mg : Str → Option Value) (L : Lk) (x : Str) (hd : Hd) : Prop where
  ex : ∃ (g : Addr) (pg : Arguments) (sg : Scope) (dV kV doc pm cdv ct oc : Value) (an od : Option Addr) (osl : Array (Option Value)) (Ng : List Str) (a e : Str) (ce : Expr) (v : V) (CS : Addr) (p1 p2 p2' p3 p4 p6 p7 p8 : Pos) (bg : List Stmt),
    bg = [.Try [.Return (some (retOf a hd.att p1 p2 p2')) p3] [.ExceptHandler (some (.Name e p4)) none [.Return (some ce) p6] p7] [] [] p8] ∧ mg x = some (.ref g) ∧ PySem.W.keepIn K (.ref g) = true ∧
    K.lookup g = some ⟨oc, od, .func (PySem.W.fnOf x x pg bg sg dV kV doc pm an cdv ct), osl⟩ ∧ PySem.W.codeIn K cdv x = true ∧ L2.Binds K (PySem.W.fnOf x x pg bg sg dV kV doc pm an cdv ct) [a] [] ∧ FnScope Ng [a] sg ∧ Ng[0]? = some a ∧ Vis sg a ∧
    sg.names.lookup e = some .globalImplicit ∧ mg e = some (.ref CS) ∧ (e == ("__debug__" : Str)) = false ∧ (x == ("__debug__" : Str)) = false ∧ (a == ("__debug__" : Str)) = false ∧ (a == ("__classdict__" : Str)) = false ∧ (a != ("super" : Str)) = true ∧ (∀ Y : Cx, PE Y ce (tC v)) ∧
    (∀ f : Addr, (L2.start Ng [V.ref f])[0]? = some (some (V.ref f))) ∧ ∃ cs d, hd.hs = [(cs, d)] ∧ (∀ F, Rep K L.ct F d v) ∧ ∀ c, cs.contains c = true → PySem.W.exmOne K (.ref (L.ct c)) (.ref CS) = some true
theorem lam_read {hd : Hd} {i : Nat} {F H : Hp} {σ : L2.St} {e : Dv.Env} {m : M} {Q : VK} {cs : List Nat} {d : D} {v : V} {CS : Addr} (cf : ∀ c k, G.cls[c]? = some k → ClsF X.K L c k) (q : G.hds[i]? = some hd) (eh : hd.hs = [(cs, d)]) (hv : ∀ F, Rep X.K L.ct F d v) (hx : ∀ c, cs.contains c = true → PySem.W.exmOne X.K (.ref (L.ct c)) (.ref CS) = some true)
    (o : SOk X.K L.ct F H σ e) (h : Post X.K L.ct F H (E σ) Q (evE G cl mk (.lamc i m) e)) : LamX.tLam Tt.T (TTh X.K CS v hd.att) (fun E' => rd X.K L.ct G cl mk (fun _ => E') m) σ H Q := by
  unfold evE at h
  rw [q] at h
  dsimp only at h
  refine ⟨o.in_.tb, fun H1 ex tb => ?_⟩
  have ez : Ez H H1 := ⟨ex, tb⟩
  have s1 : Step F H F H1 := ⟨Ex.refl _, ez, o.in_.fwd ez, fun _ z => .inl z⟩
  refine ⟨F, e, o.step s1, ?_⟩
  cases w : evE G cl mk m e with
  | bad => rw [w] at h; exact h
  | ok x =>
    rw [w] at h
    replace h : Post X.K L.ct F H1 (E σ) Q (hdOk G hd x) := Post.step s1 h
    intro F' H' u st kr
    unfold hdOk at h
    cases at_ : hd.att with
    | none =>
      rw [at_] at h
      dsimp only at h
      by_cases nb : x.2 = .bor
      · rw [if_pos nb] at h; exact h.elim
      · rw [if_neg nb] at h
        exact h F' H' u st kr
    | some f =>
      rw [at_] at h
      dsimp only at h
      obtain ⟨x, kx⟩ := x
      cases x <;> first | exact h.elim | skip
      rename_i c fs
      dsimp only at h
      obtain ⟨p, dx, ws, rfl, hp, rf⟩ := kr.1.any.ins st.in_
      cases q3 : fs.lookup f with
      | none => rw [q3] at h; exact h.elim
      | some y =>
        rw [q3] at h
        dsimp only at h
        by_cases hf : lookF G c f = true
        · rw [if_pos hf] at h
          obtain ⟨hc, hn⟩ := clsF_f cf hf
          obtain ⟨u, hu, ru⟩ := rf.look q3
          exact ⟨p, _, dx, ws, u, rfl, hp, hc, hn, hu, h F' H' u st (KRep.frz ru)⟩
        · rw [if_neg hf] at h
          exact h.elim
  | er x =>
    rw [w] at h
    replace h : Post X.K L.ct F H1 (E σ) Q (hdEr hd x) := Post.step s1 h
    intro H' cls dd ez' xr
    obtain ⟨c, l, rfl, rfl, _⟩ := xr
    unfold hdEr at h
    rw [eh] at h
    dsimp only at h
    by_cases hc : cs.contains c = true
    · rw [show [(cs, d)].find? (fun p => p.1.contains c) = some (cs, d) by rw [List.find?_cons]; simp only [hc]] at h
      exact ⟨true, hx c hc, fun _ => h F H' v ⟨Ex.refl _, ez', s1.in_.fwd ez', fun _ z => .inl z⟩ (KRep.frz (hv F)), fun z => nomatch z⟩
    · rw [show [(cs, d)].find? (fun p => p.1.contains c) = none by rw [List.find?_cons]; simp only [Bool.not_eq_true] at hc; simp only [hc]; rfl] at h
      exact h.elim
theorem s_lamc {hd : Hd} {i : Nat} {x : Str} {c0 P : Addr} {k : Nat} {params : Arguments} {body : Expr} {scope : Scope} {m : M} {p lpos pos : Pos} (cf : ∀ c k, G.cls[c]? = some k → ClsF X.K L c k) (q : G.hds[i]? = some hd) (hf : HdF X.K X.mg L x hd) (hg : Gl X x)
    (TB : LamX.TabB X.base X.mg c0 P) (hcode : X.env.code = .ref c0) (hmT : (P, X.env.qual ++ "<lambda>") ∈ Tt.T) (hu : ∀ p ∈ Tt.T, p.1 = P → p.2 = X.env.qual ++ "<lambda>") (hr : Room (k + 2) X.A) (Ls : LamX.LamS X.env.scope scope) (hdef : defaultsOf params X.env = ([], []))
    (hbind : ∀ (q : Str) (cl : List (Str × Addr)) (pm cv ctv : Value), bindArgs (PySem.W.kla_fn "<lambda>" q params body scope cl pm cv ctv) ⟨[], []⟩ = pure [])
    (hbody : ∀ (A : Around) (outer : List PySem.Env) (s : Shared) (H : Hp) (E : XK) (f c' : Addr), Room k (A.deeper (LamX.lamEnv X scope s.heap.objs.size f c')) → PE (LamX.lamCx X A outer s H E scope f c') body (rd X.K L.ct G cl mk (fun _ => E) m)) :
    PE X (.Call (.Name x p) [.Lambda params body scope lpos] [] pos) (rd X.K L.ct G cl mk E (.lamc i m)) := by
  obtain ⟨g, pg, sg, dV, kV, doc, pm, cdv, ct, oc, an, od, osl, Ng, a, e, ce, v, CS, p1, p2, p2', p3, p4, p6, p7, p8, bg, eb, hm, hk, lk, hcg, hb, Sg, hNg, hva, hge, hme, hde, hdx, hda, hca, hsu, hce, h0, cs, d, eh, hv, hx⟩ := hf.ex
  subst eb
  refine PE.imp (LamX.pe_lamcall (TT := TTh X.K CS v hd.att) (t := fun E' => rd X.K L.ct G cl mk (fun _ => E') m) hg hm hk lk hcg hb Sg hNg hva (gives_hd hge hme hde h0 hce hsu) TB hcode hmT hu hr Ls hdef hbind hbody hdx hda hca) fun σ H Q h => ?_
  obtain ⟨F, e', o, h⟩ := h
  exact lam_read cf q eh hv hx o h
end
end Dv
end
section
set_option Elab.async false
set_option linter.all false
set_option maxRecDepth 100000
set_option maxHeartbeats 4000000
/-! The text beside the small language: expressions. -/
namespace Dv
open PySem PySem.Spec PyProof.Rows L2
variable [Tt]
/-- what the names are -/
structure Cc where
  N : List Str
  sc : Scope
  fns : List (Str × Nat)
  cls : List (Str × Nat)
  blt : List Str
  /-- a def's own names (not a block's) -/
  df : Bool
  /-- classes that are raised -/
  exc : List (Str × Nat)
  /-- room that is left for a lambda, called in another def -/
  rm : Nat := 0
  /-- lambdas may be made; the defs that get them -/
  lm : Bool := false
  hds : List (Str × Nat) := []
/-- no parameters -/
def noPar : Arguments → Bool
  | ⟨[], [], none, [], [], none, []⟩ => true
  | _ => false
def visB (sc : Scope) (x : Str) : Bool := decide (sc.names.lookup x = some .local) || decide (sc.names.lookup x = some .cell) || decide (sc.names.lookup x = some .free)
def glB (sc : Scope) (x : Str) : Bool := decide (sc.names.lookup x = some .globalImplicit) && !(x == ("__debug__" : Str))
def slB (c : Cc) (i : Nat) (x : Str) : Bool := decide (c.N[i]? = some x) && visB c.sc x && !(x == ("__debug__" : Str)) && !(x == ("__classdict__" : Str))
def cstB : D → Const → Bool
  | .int i, .int j => decide (i = j)
  | .bl a, .bool b => decide (a = b)
  | .non, .none => true
  | .str a, .str b => decide (a = b)
  | _, _ => false
def opB' : Bop → Operator → Bool
  | .add, .Add => true
  | .sub, .Sub => true
  | .mul, .Mult => true
  | .fdiv, .FloorDiv => true
  | .mod, .Mod => true
  | _, _ => false
theorem opB_eq {o : Bop} {q : Operator} (h : opB' o q = true) : q = pyOp o := by
  cases o <;> cases q <;> first | rfl | cases h
def cpB : Cop → CmpOp → Bool
  | .eq, .Eq => true
  | .ne, .NotEq => true
  | .lt, .Lt => true
  | .le, .LtE => true
  | .gt, .Gt => true
  | .ge, .GtE => true
  | .is, .Is => true
  | .isn, .IsNot => true
  | .mem, .In => true
  | .nmem, .NotIn => true
  | _, _ => false
theorem cpB_eq {o : Cop} {q : CmpOp} (h : cpB o q = true) : q = pyCmp o := by
  cases o <;> cases q <;> first | rfl | cases h
def inB (neg : Bool) (q : CmpOp) : Bool := match q with
  | .In => !neg
  | .NotIn => neg
  | _ => false
theorem inB_eq {neg : Bool} {q : CmpOp} (h : inB neg q = true) : q = inOp neg := by
  cases neg <;> cases q <;> first | rfl | cases h
def isA : M → Bool
  | .nil => true
  | .cons _ _ => true
  | _ => false
def isIt : M → Bool
  | .rng _ => true
  | .zip _ => true
  | .enum _ => true
  | _ => false
def isZip : M → Bool
  | .zip _ => true
  | .enum _ => true
  | _ => false
def isE (m : M) : Bool := !isA m && !isIt m
def isTup : Expr → Bool
  | .Tuple _ _ _ => true
  | _ => false
def isSetE : Expr → Bool
  | .Set _ _ _ => true
  | _ => false
def ownOf (N : List Str) (vs : List Nat) : List (Str × Nat) := vs.map fun i => (N.getD i "", i)
/-- a name that is stored -/
def tnB (c : Cc) (i : Nat) (x : Str) : Bool := decide (c.N[i]? = some x) && (decide (c.sc.names.lookup x = some .local) || (c.df && decide (c.sc.names.lookup x = some .cell)))
def tnsB (c : Cc) : List Nat → List Expr → Bool
  | [], [] => true
  | i :: is, e :: es => (match e with | .Name x _ => tnB c i x | _ => false) && tnsB c is es
  | _, _ => false
def tgB (c : Cc) (is : List Nat) (e : Expr) : Bool := match is, e with
  | [i], .Name x _ => tnB c i x
  | i :: j :: is, .Tuple es _ _ => tnsB c (i :: j :: is) es
  | _, _ => false
def isaTy (c : Cc) (t : Isa) (e : Expr) : Bool := match t, e with
  | .ty n, .Name x _ => decide (x = n) && isaNames.contains n && glB c.sc x && c.blt.contains x
  | .own k, .Name x _ => decide (c.cls.lookup x = some k) && glB c.sc x
  | _, _ => false
def isNil : M → Bool
  | .nil => true
  | _ => false
def yesM : M → Bool
  | .cst (.bl b) => b
  | _ => false
def isSset : Bt → Bool
  | .sset => true
  | _ => false
def restOf (op : BoolOp) (y : Expr) (r : List Expr) (pos : Pos) : Expr := match r with
  | [] => y
  | _ => .BoolOp op (y :: r) pos
/-- the text e is m; t: as a test; an argument list stands as a tuple -/
def ok (c : Cc) : M → Bool → Expr → Bool
  | .slot i, t, e => (!t || plainTest e) && (match e with
    | .Name x _ => slB c i x
    | _ => false)
  | .cst d, t, e => (!t || plainTest e) && (match e with
    | .Constant k _ _ => cstB d k
    | _ => false)
  | .gc x, t, e => (!t || plainTest e) && (match e with
    | .Name y _ => decide (x = y) && glB c.sc x
    | _ => false)
  | .ixg x a, t, e => (!t || plainTest e) && (match e with
    | .Subscript (.Name y _) b _ => decide (x = y) && glB c.sc x && noSlice b && isE a && ok c a false b
    | _ => false)
  | .ing x neg a, t, e => (match e with
    | .Compare b [op] [.Name y _] _ => decide (x = y) && glB c.sc x && inB neg op && isE a && ok c a false b
    | _ => false)
  | .bin o a b, t, e => (!t || plainTest e) && (match e with
    | .BinOp l op r _ => opB' o op && isE a && isE b && ok c a false l && ok c b false r
    | _ => false)
  | .neg a, t, e => (!t || plainTest e) && (match e with
    | .UnaryOp .USub x _ => isE a && ok c a false x
    | _ => false)
  | .not a, t, e => (match e with
    | .UnaryOp .Not x _ => isE a && ok c a t x
    | _ => false)
  | .and a b, t, e => (match e with
    | .BoolOp .And (x :: y :: r) pos => isE a && isE b && ok c a t x && ok c b t (restOf .And y r pos)
    | _ => false)
  | .or a b, t, e => (match e with
    | .BoolOp .Or (x :: y :: r) pos => isE a && isE b && ok c a t x && ok c b t (restOf .Or y r pos)
    | _ => false)
  | .cmp o a b, t, e => (match e with
    | .Compare l [op] [r] _ => cpB o op && noSet r && isE a && isE b && ok c a false l && ok c b false r
    | _ => false)
  | .cmp2 o p a b d, t, e => (match e with
    | .Compare l [op, op2] [r, z] _ => cpB o op && cpB p op2 && noSet z && isE a && isE b && isE d && ok c a false l && ok c b false r && ok c d false z
    | _ => false)
  | .ite q a b, t, e => !t && (match e with
    | .IfExp x y z _ => isE q && isE a && isE b && ok c q true x && ok c a false y && ok c b false z
    | _ => false)
  | .nil, t, e => (match e with
    | .Tuple [] _ _ => true
    | _ => false)
  | .cons a r, t, e => (match e with
    | .Tuple (x :: es) k pos => noStar x && isE a && isA r && ok c a false x && ok c r false (.Tuple es k pos)
    | _ => false)
  | .tup l, t, e => (!t || plainTest e) && (match e with
    | .Tuple es k pos => isA l && decide (es.length ≤ 1000) && ok c l false (.Tuple es k pos)
    | _ => false)
  | .lst l, t, e => (!t || plainTest e) && (match e with
    | .List es pos => isA l && decide (es.length ≤ 1000) && ok c l false (.Tuple es 0 pos)
    | _ => false)
  | .ix a b, t, e => (!t || plainTest e) && (match e with
    | .Subscript x y _ => noSlice y && isE a && isE b && ok c a false x && ok c b false y
    | _ => false)
  | .sl a b d, t, e => (!t || plainTest e) && (match e with
    | .Subscript x (.Slice (some y) (some z) none _) _ => isE a && isE b && isE d && ok c a false x && ok c b false y && ok c d false z
    | _ => false)
  | .slL a b, t, e => (!t || plainTest e) && (match e with
    | .Subscript x (.Slice (some y) none none _) _ => isE a && isE b && ok c a false x && ok c b false y
    | _ => false)
  | .slH a b, t, e => (!t || plainTest e) && (match e with
    | .Subscript x (.Slice none (some y) none _) _ => isE a && isE b && ok c a false x && ok c b false y
    | _ => false)
  | .att a f, t, e => (!t || plainTest e) && (match e with
    | .Attribute x g _ => decide (f = g) && baseOk x && isE a && ok c a false x
    | _ => false)
  | .call f l, t, e => (!t || plainTest e) && (match e with
    | .Call (.Name x _) es [] pos => glB c.sc x && decide (c.fns.lookup x = some f) && es.all noStar && isA l && ok c l false (.Tuple es 0 pos)
    | _ => false)
  | .make k l, t, e => (!t || plainTest e) && (match e with
    | .Call (.Name x _) (y :: es) [] pos => glB c.sc x && decide (c.cls.lookup x = some k) && (y :: es).all noStar && isA l && ok c l false (.Tuple (y :: es) 0 pos)
    | _ => false)
  | .meth a m l, t, e => (!t || plainTest e) && (match e with
    | .Call (.Attribute x n apos) es [] pos => decide (m = n) && baseOk x && (apos.endLine == pos.line) && es.all noStar && decide (es.length < 30) && isE a && isA l && ok c a false x && ok c l false (.Tuple es 0 pos)
    | _ => false)
  | .blt b l, t, e => (!t || plainTest e) && ((match e with
    | .Call (.Name x _) (y :: es) [] pos => decide (x = btName b) && !isSset b && glB c.sc x && c.blt.contains x && (y :: es).all noStar && isA l && ok c l false (.Tuple (y :: es) 0 pos)
    | _ => false) || (match e with
    | .Call (.Name x _) [.Call (.Name y _) [z] [] pos] [] _ => isSset b && decide (x = "sorted") && glB c.sc x && c.blt.contains x && decide (y = "set") && glB c.sc y && c.blt.contains y && noStar z && isA l && ok c l false (.Tuple [z] 0 pos)
    | _ => false))
  | .isi a ty, t, e => (!t || plainTest e) && (match e with
    | .Call (.Name x _) [y, z] [] _ => decide (x = "isinstance") && glB c.sc x && c.blt.contains x && noStar y && noStar z && isE a && isaTy c ty z && ok c a false y
    | _ => false)
  | .comp vs tg it tt el, t, e => (!t || plainTest e) && (match e with
    | .ListComp elt [⟨tgt, iter, ifs, 0⟩] scope pos => blkC c.N c.sc scope (ownOf c.N vs) && tg.all (vs.contains ·) && !isSetE iter && isE tt && isE el && !isA it && (!isZip it || isTup tgt) &&
        tgB { c with sc := relS scope c.sc, df := false, lm := false } tg tgt && ok c it false iter && ok { c with sc := relS scope c.sc, df := false, lm := false } el false elt &&
        (match ifs with
          | [] => yesM tt
          | [x] => ok { c with sc := relS scope c.sc, df := false, lm := false } tt true x
          | _ => false)
    | _ => false)
  | .rng l, _, e => (match e with
    | .Call (.Name x _) es [] pos => decide (x = "range") && glB c.sc x && c.blt.contains x && es.all noStar && isA l && (decide (es.length = 1) || decide (es.length = 2)) && ok c l false (.Tuple es 0 pos)
    | _ => false)
  | .zip l, _, e => (match e with
    | .Call (.Name x _) es [] pos => decide (x = "zip") && glB c.sc x && c.blt.contains x && es.all noStar && isA l && decide (es.length = 2) && ok c l false (.Tuple es 0 pos)
    | _ => false)
  | .enum _, _, _ => false
  | .dead, _, _ => true
  | .clm k m l, t, e => (!t || plainTest e) && (match e with
    | .Call (.Attribute (.Name x _) n apos) (y :: es) [] pos => decide (m = n) && glB c.sc x && decide (c.cls.lookup x = some k) && (apos.endLine == pos.line) && (y :: es).all noStar && decide ((y :: es).length < 30) && isA l && ok c l false (.Tuple (y :: es) 0 pos)
    | _ => false)
  | .stm k m l, t, e => (!t || plainTest e) && (match e with
    | .Call (.Attribute (.Name x _) n apos) [] [] pos => decide (m = n) && glB c.sc x && decide (c.cls.lookup x = some k) && (apos.endLine == pos.line) && isNil l
    | _ => false)
  | .mkv i l, t, e => (!t || plainTest e) && (match e with
    | .Call (.Name x _) (y :: es) [] pos => slB c i x && (y :: es).all noStar && isA l && ok c l false (.Tuple (y :: es) 0 pos)
    | _ => false)
  | .sset vs tg it tt el, t, e => (!t || plainTest e) && (match e with
    | .Call (.Name x _) [.SetComp elt [⟨tgt, iter, ifs, 0⟩] scope pos] [] _ => decide (x = "sorted") && glB c.sc x && c.blt.contains x && blkC c.N c.sc scope (ownOf c.N vs) && tg.all (vs.contains ·) && !isSetE iter && isE tt && isE el && !isA it && (!isZip it || isTup tgt) &&
        tgB { c with sc := relS scope c.sc, df := false, lm := false } tg tgt && ok c it false iter && ok { c with sc := relS scope c.sc, df := false, lm := false } el false elt &&
        (match ifs with
          | [] => yesM tt
          | [x] => ok { c with sc := relS scope c.sc, df := false, lm := false } tt true x
          | _ => false)
    | _ => false)
  | .lamc i m, t, e => (!t || plainTest e) && (match e with
    | .Call (.Name x _) [.Lambda params body scope _] [] _ => c.lm && decide (2 ≤ c.rm) && glB c.sc x && decide (c.hds.lookup x = some i) && LamX.lamSB c.sc scope && noPar params && isE m && ok { c with sc := scope, df := false, lm := false, rm := 0 } m false body
    | _ => false)
end Dv
end
section
set_option Elab.async false
set_option linter.all false
set_option maxRecDepth 100000
set_option maxHeartbeats 8000000
/-! The text beside the small language: it is read as that. -/
namespace Dv
open PySem PySem.Spec PyProof.Rows L2
variable [Tt]
structure OwnAll (X : Cx) (L : Lk) (G : Gm) (cl : Nat → List D → Res (D × Kd)) (E : L2.St → XK) : Prop where
  b : ∀ o, OwnB X L G cl E o
  c : ∀ o, OwnC X L G cl E o
  i : OwnI X L G cl E
  l : OwnL X L G cl E
  n : ∀ (pins : List (Addr × Obj)) (s : Shared) (σ : L2.St) (F H : Hp) (c f : Nat) (fs : List (Str × D)) (v : V) (vv : Value) (Q : VK), Inv X pins σ H s → RelV v vv → In F H → Rep X.K L.ct F (.ins c fs) v → lookC G c "__neg__" = some f → Post X.K L.ct F H (E σ) Q (cl f [.ins c fs]) → wpAny (model X.prog X.w) X.A (unaryOp .USub vv) (EP X pins σ Q) X.xe s
structure Cok (X : Cx) (L : Lk) (G : Gm) (c : Cc) (cl : Nat → List D → Res (D × Kd)) (mk : Nat → List D → Res D) (k : Nat) (E : XK) : Prop where
  calls : CallsOk X.prog X.w X.K X.mg X.base L cl mk k
  room : Room (k + 1 + c.rm) X.A
  calm : X.calm = true
  tk : Takes X fun cls d _ H => E cls d H
  mkOwn : ∀ (X' : Cx) (E' : XK), X'.prog = X.prog → X'.w = X.w → X'.K = X.K → X'.mg = X.mg → X'.base = X.base → X'.calm = true → Room (k + 1) X'.A → Takes X' (fun cls d _ H => E' cls d H) → Good X' L cl mk (fun _ => E') → OwnAll X' L G cl (fun _ => E')
  N : X.N = c.N
  nd : X.N.Nodup
  sc : X.env.scope = c.sc
  df : c.df = true → ∀ x, X.fn x = true
  fns : ∀ x f, c.fns.lookup x = some f → X.mg x = some (.ref (L.fa f)) ∧ PySem.W.keepIn X.K (.ref (L.fa f)) = true
  cls : ∀ x k, c.cls.lookup x = some k → X.mg x = some (.ref (L.ct k)) ∧ PySem.W.keepIn X.K (.ref (L.ct k)) = true
  blt : ∀ x, c.blt.contains x = true → X.mg x = none
  cf : ∀ c k, G.cls[c]? = some k → ClsF X.K L c k
  con : ∀ x d, G.consts.lookup x = some d → ConF X L x d
  tab : ∀ x l, G.tabs.lookup x = some l → TabF X L x l
  isa : IsaF X.K L G
  lam : c.lm = true → ∃ c0 P, X.env.code = .ref c0 ∧ LamX.TabB X.base X.mg c0 P ∧ (P, X.env.qual ++ "<lambda>") ∈ Tt.T ∧ ∀ p ∈ Tt.T, p.1 = P → p.2 = X.env.qual ++ "<lambda>"
  hds : ∀ x i, c.hds.lookup x = some i → ∃ hd, G.hds[i]? = some hd ∧ HdF X.K X.mg L x hd
section
variable {X : Cx} {L : Lk} {G : Gm} {c : Cc} {cl : Nat → List D → Res (D × Kd)} {mk : Nat → List D → Res D} {k : Nat} {E : XK}
theorem Cok.rm1 (h : Cok X L G c cl mk k E) : Room (k + 1) X.A := h.room.mono (Nat.le_add_right _ _)
theorem Cok.good (h : Cok X L G c cl mk k E) : Good X L cl mk (fun _ => E) := good_of h.calls h.rm1 h.calm h.tk
theorem Cok.own (h : Cok X L G c cl mk k E) : OwnAll X L G cl (fun _ => E) := h.mkOwn X E rfl rfl rfl rfl rfl h.calm h.rm1 h.tk h.good
abbrev EF : XK := fun _ _ _ => False
theorem Cok.blk (h : Cok X L G c cl mk k E) {s : Shared} {H : Hp} {scope : Scope} {C : Addr} {cl' : List (Str × Addr)} {fp : List Addr} :
    Cok (X.blk s H scope (compEnvC scope cl' C X.env) fp) L G { c with sc := relS scope c.sc, df := false, lm := false } cl mk k EF where
  calls := h.calls
  room := h.room
  calm := h.calm
  tk := takes0
  mkOwn := h.mkOwn
  N := h.N
  nd := h.nd
  sc := by
    show relS scope X.env.scope = relS scope c.sc
    rw [h.sc]
  df := fun z => nomatch z
  fns := h.fns
  cls := h.cls
  blt := h.blt
  cf := h.cf
  con := fun x d q => ⟨(h.con x d q).at_⟩
  tab := fun x l q => ⟨(h.tab x l q).at_⟩
  isa := h.isa
  lam := fun z => nomatch z
  hds := h.hds
theorem Cok.lamb (h : Cok X L G c cl mk k E) {A : Around} {outer : List PySem.Env} {s : Shared} {H : Hp} {E' : XK} {scope : Scope} {f c' : Addr} (hr : Room (k + 1) (A.deeper (LamX.lamEnv X scope s.heap.objs.size f c'))) :
    Cok (LamX.lamCx X A outer s H E' scope f c') L G { c with sc := scope, df := false, lm := false, rm := 0 } cl mk k E' where
  calls := h.calls
  room := hr
  calm := rfl
  tk := takes_of (E₁ := fun e' s'' => L2.CX X.prog X.w outer H s E' e' s'') rfl rfl rfl rfl
  mkOwn := h.mkOwn
  N := h.N
  nd := h.nd
  sc := rfl
  df := fun z => nomatch z
  fns := h.fns
  cls := h.cls
  blt := h.blt
  cf := h.cf
  con := fun x d q => ⟨(h.con x d q).at_⟩
  tab := fun x l q => ⟨(h.tab x l q).at_⟩
  isa := h.isa
  lam := fun z => nomatch z
  hds := h.hds
def Snd (X : Cx) (L : Lk) (G : Gm) (cl : Nat → List D → Res (D × Kd)) (mk : Nat → List D → Res D) (E : XK) (m : M) (t : Bool) (e : Expr) : Prop :=
  (isE m = true → t = false → PE X e (rd X.K L.ct G cl mk (fun _ => E) m)) ∧
  (isE m = true → t = true → PT X e (rdT X.K L.ct G cl mk (fun _ => E) m) ∧ ∀ op vs pos, e = .BoolOp op vs pos → PW X e (rdT X.K L.ct G cl mk (fun _ => E) m)) ∧
  (isA m = true → ∀ es k pos, e = .Tuple es k pos → PA X es (rdA X.K L.ct G cl mk (fun _ => E) m)) ∧
  (isIt m = true → ∀ tg, (isZip m = true → isTup tg = true) → PI X tg e (rdI X.K L.ct G cl mk (fun _ => E) m))
theorem nb_plain {e : Expr} {op : BoolOp} {vs : List Expr} {pos : Pos} (h : plainTest e = true) (z : e = .BoolOp op vs pos) : False := by
  subst z; cases h
theorem snd_plain {m : M} {t : Bool} {e : Expr} (ha : isE m = true) (hp : (!t || plainTest e) = true) (h : PE X e (rd X.K L.ct G cl mk (fun _ => E) m)) : Snd X L G cl mk E m t e := by
  refine ⟨fun _ _ => h, fun _ ht => ?_, (fun z => by unfold isE at ha; rw [z] at ha; cases ha), fun z => by unfold isE at ha; rw [z, Bool.not_true, Bool.and_false] at ha; cases ha⟩
  subst ht
  have hp : plainTest e = true := hp
  exact ⟨s_test hp h, fun op vs pos z => (nb_plain hp z).elim⟩
theorem snd_pe {m : M} {e : Expr} (h : Snd X L G cl mk E m false e) (ha : isE m = true) : PE X e (rd X.K L.ct G cl mk (fun _ => E) m) := h.1 ha rfl
theorem snd_pa {m : M} {es : List Expr} {k : Nat} {pos : Pos} (h : Snd X L G cl mk E m false (.Tuple es k pos)) (ha : isA m = true) : PA X es (rdA X.K L.ct G cl mk (fun _ => E) m) := h.2.2.1 ha es k pos rfl
theorem vis_of {sc : Scope} {x : Str} (h : visB sc x = true) : Vis sc x := by
  unfold visB at h
  simp only [Bool.or_eq_true, decide_eq_true_eq] at h
  rcases h with (h | h) | h
  · exact .inl h
  · exact .inr (.inl h)
  · exact .inr (.inr h)
theorem gl_of (h : Cok X L G c cl mk k E) {x : Str} (g : glB c.sc x = true) : Gl X x ∧ (x == ("__debug__" : Str)) = false := by
  unfold glB at g
  obtain ⟨a, b⟩ := Bool.and_eq_true_iff.mp g
  rw [← h.sc] at a
  have a : X.env.scope.names.lookup x = some .globalImplicit := of_decide_eq_true a
  exact ⟨a, by simpa using b⟩
theorem cst_of {d : D} {k : Const} {j : Nat} {pos : Pos} (q : cstB d k = true) : PE X (.Constant k j pos) (rd X.K L.ct G cl mk (fun _ => E) (.cst d)) := by
  cases d <;> cases k <;> first | (cases q; done) | skip
  · exact s_non
  · obtain rfl := of_decide_eq_true q; exact s_bl
  · obtain rfl := of_decide_eq_true q; exact s_int
  · obtain rfl := of_decide_eq_true q; exact s_str
theorem sl_of (h : Cok X L G c cl mk k E) {i : Nat} {x : Str} (g : slB c i x = true) : X.N[i]? = some x ∧ Vis X.env.scope x ∧ (x == ("__debug__" : Str)) = false ∧ (x == ("__classdict__" : Str)) = false := by
  unfold slB at g
  obtain ⟨g, a4⟩ := Bool.and_eq_true_iff.mp g
  obtain ⟨g, a3⟩ := Bool.and_eq_true_iff.mp g
  obtain ⟨a1, a2⟩ := Bool.and_eq_true_iff.mp g
  rw [h.N, h.sc]
  exact ⟨of_decide_eq_true a1, vis_of a2, by simpa using a3, by simpa using a4⟩
theorem pa_len {m : M} {k : Nat} {pos : Pos} : ∀ {es : List Expr}, isA m = true → ok c m false (.Tuple es k pos) = true → lenM m = some es.length := by
  induction m with
  | nil =>
    intro es _ h
    cases es with
    | nil => rfl
    | cons _ _ => unfold ok at h; cases h
  | cons a r _ ih =>
    intro es _ h
    cases es with
    | nil => unfold ok at h; cases h
    | cons x es =>
      unfold ok at h
      simp only [Bool.and_eq_true] at h
      obtain ⟨⟨⟨⟨_, _⟩, h3⟩, _⟩, h5⟩ := h
      unfold lenM
      rw [ih h3 h5]
      rfl
  | _ => intro es h; cases h
theorem call_of (h : Cok X L G c cl mk k E) {x : Str} {p pos : Pos} {es : List Expr} {l : M} {f : Nat} (g : Gl X x) (m1 : X.mg x = some (.ref (L.fa f))) (k1 : PySem.W.keepIn X.K (.ref (L.fa f)) = true) (d : (x == ("__debug__" : Str)) = false) (a3 : es.all noStar = true) (a4 : isA l = true)
    (a5 : ok c l false (.Tuple es 0 pos) = true) (pa : PA X es (rdA X.K L.ct G cl mk (fun _ => E) l)) : PE X (.Call (.Name x p) es [] pos) (rd X.K L.ct G cl mk (fun _ => E) (.call f l)) := by
  cases es with
  | cons y es => exact s_call h.good g m1 k1 d a3 pa
  | nil =>
    cases l <;> first | (cases a4; done) | skip
    · exact s_call0 h.good g m1 k1 d
    · unfold ok at a5; cases a5
theorem meth_of (h : Cok X L G c cl mk k E) {x : Expr} {n : Str} {apos pos : Pos} {es : List Expr} {a l : M} (a2 : baseOk x = true) (a3 : (apos.endLine == pos.line) = true) (a4 : es.all noStar = true) (a5 : es.length < 30) (a7 : isA l = true)
    (a9 : ok c l false (.Tuple es 0 pos) = true) (po : PE X x (rd X.K L.ct G cl mk (fun _ => E) a)) (pa : PA X es (rdA X.K L.ct G cl mk (fun _ => E) l)) : PE X (.Call (.Attribute x n apos) es [] pos) (rd X.K L.ct G cl mk (fun _ => E) (.meth a n l)) := by
  cases es with
  | cons y es => exact s_meth h.good h.cf a2 a3 a4 a5 po pa
  | nil =>
    cases l <;> first | (cases a7; done) | skip
    · exact s_meth0 h.good h.cf a2 a3 po
    · unfold ok at a9; cases a9
theorem isaTy_pe (h : Cok X L G c cl mk k E) {t : Isa} {e : Expr} (q : isaTy c t e = true) : PE X e (tC (isaV L t)) := by
  unfold isaTy at q
  split at q
  · simp only [Bool.and_eq_true] at q
    obtain ⟨⟨⟨a1, a2⟩, a3⟩, a4⟩ := q
    obtain rfl := of_decide_eq_true a1
    obtain ⟨g, d⟩ := gl_of h a3
    have bt : (isaNames.all fun n => decide (bootBuiltins n = some (.type n)) && decide (PySem.Str.ofString n ≠ PySem.Str.ofString "__name__")) = true := by decide +kernel
    have := List.all_eq_true.mp bt _ (List.contains_iff_mem.mp a2)
    obtain ⟨b1, b2⟩ := Bool.and_eq_true_iff.mp this
    exact pe_bltn g (h.blt _ a4) (of_decide_eq_true b1) rfl (of_decide_eq_true b2) d
  · obtain ⟨a1, a2⟩ := Bool.and_eq_true_iff.mp q
    obtain ⟨g, d⟩ := gl_of h a2
    exact pe_glob g (h.cls _ _ (of_decide_eq_true a1)).1 rfl d
  · cases q
theorem own_vs (N : List Str) (vs : List Nat) : (ownOf N vs).map (·.2) = vs := by
  unfold ownOf
  rw [List.map_map]
  exact List.map_id vs
theorem fold_of {e : Expr} {env : PySem.Env} (h : (!isSetE e) = true) : ∀ x, foldedSetIterable e env x = pure x := fun x => by
  cases e <;> first | rfl | cases h
theorem tnB_pg (h : Cok X L G c cl mk k E) {i : Nat} {x : Str} {pos : Pos} (q : tnB c i x = true) : PG X (.Name x pos) (gName i) := by
  unfold tnB at q
  obtain ⟨a, b⟩ := Bool.and_eq_true_iff.mp q
  have a := of_decide_eq_true a
  rw [← h.N] at a
  simp only [Bool.or_eq_true, Bool.and_eq_true, decide_eq_true_eq] at b
  rw [← h.sc] at b
  rcases b with b | ⟨d, b⟩
  · exact pg_name h.nd a (.inl b) (.inr b)
  · exact pg_name h.nd a (.inr b) (.inl (h.df d x))
theorem tgs_plain (c : Cc) : ∀ {is : List Nat} {es : List Expr}, tnsB c is es = true → ∀ env, (assignEach es env).length = is.length ∧ (assignEach es env).findIdx? (·.1) = none
  | [], [], _, env => ⟨rfl, rfl⟩
  | i :: is, e :: es, q, env => by
    unfold tnsB at q
    obtain ⟨a, b⟩ := Bool.and_eq_true_iff.mp q
    obtain ⟨h1, h2⟩ := tgs_plain c b env
    cases e <;> first | (cases a; done) | skip
    refine ⟨by show (_ :: assignEach es env).length = _; rw [List.length_cons, h1]; rfl, ?_⟩
    show ((false, _) :: assignEach es env).findIdx? (·.1) = none
    rw [List.findIdx?_cons, h2]
    rfl
  | [], _ :: _, q, _ => by cases q
  | _ :: _, [], q, _ => by cases q
theorem tns_pgs (h : Cok X L G c cl mk k E) : ∀ {is : List Nat} {es : List Expr}, tnsB c is es = true → PGs X es (gNs is)
  | [], [], _ => pgs_nil
  | i :: is, e :: es, q => by
    unfold tnsB at q
    obtain ⟨a, b⟩ := Bool.and_eq_true_iff.mp q
    cases e <;> first | (cases a; done) | skip
    exact pgs_cons (tnB_pg h a) (tns_pgs h b)
  | [], _ :: _, q => by cases q
  | _ :: _, [], q => by cases q
theorem tgB_pg (h : Cok X L G c cl mk k E) {is : List Nat} {e : Expr} (q : tgB c is e = true) : PG X e (gT X.K is) := by
  unfold tgB at q
  split at q
  · exact tnB_pg h q
  · obtain ⟨h1, h2⟩ := tgs_plain c q X.env
    exact pg_tup h.calm (tns_pgs h q) h1 h2
  · cases q
theorem snd_pi {m : M} {tg e : Expr} (s : Snd X L G cl mk E m false e) (ha : (!isA m) = true) (hz : (!isZip m || isTup tg) = true) : PI X tg e (rdI X.K L.ct G cl mk (fun _ => E) m) := by
  by_cases z : isIt m = true
  · exact s.2.2.2 z tg fun y => by rw [y] at hz; exact hz
  · exact pi_seqv (s.1 (by unfold isE; rw [ha]; simpa using z) rfl)
theorem rng_pi {tg : Expr} {p pos : Pos} {es : List Expr} {l : M} (g : Gl X "range") (hm : X.mg "range" = none) (h1 : es.all noStar = true) (h2 : (decide (es.length = 1) || decide (es.length = 2)) = true) (hl : lenM l = some es.length) (pa : PA X es (rdA X.K L.ct G cl mk (fun _ => E) l)) :
    PI X tg (.Call (.Name "range" p) es [] pos) (rdI X.K L.ct G cl mk (fun _ => E) (.rng l)) := by
  match es, h1, h2, hl, pa with
  | [a], h1, _, hl, pa => exact pi_rng1 (by simpa using h1) hl g hm pa
  | [a, b], h1, _, hl, pa =>
    simp only [List.all_cons, List.all_nil, Bool.and_true, Bool.and_eq_true] at h1
    exact pi_rng2 h1.1 h1.2 hl g hm pa
  | [], _, h2, _, _ => cases h2
  | _ :: _ :: _ :: r, _, h2, _, _ =>
    simp at h2
theorem zip_pi {tg : Expr} {p pos : Pos} {es : List Expr} {l : M} (g : Gl X "zip") (hm : X.mg "zip" = none) (h1 : es.all noStar = true) (h2 : es.length = 2) (ht : isTup tg = true) (hl : lenM l = some es.length) (pa : PA X es (rdA X.K L.ct G cl mk (fun _ => E) l)) :
    PI X tg (.Call (.Name "zip" p) es [] pos) (rdI X.K L.ct G cl mk (fun _ => E) (.zip l)) := by
  cases tg <;> first | (cases ht; done) | skip
  match es, h1, h2, hl, pa with
  | [a, b], h1, _, hl, pa =>
    simp only [List.all_cons, List.all_nil, Bool.and_true, Bool.and_eq_true] at h1
    exact pi_zipv h1.1 h1.2 hl g hm pa
theorem ok_sound : ∀ (m : M) {X : Cx} {c : Cc} {E : XK}, Cok X L G c cl mk k E → ∀ (t : Bool) (e : Expr), ok c m t e = true → Snd X L G cl mk E m t e := by
  intro m
  induction m with
  | slot i =>
    intro X c E h t e q
    unfold ok at q
    obtain ⟨hp, q⟩ := Bool.and_eq_true_iff.mp q
    split at q
    · obtain ⟨a, b, d, f⟩ := sl_of h q
      exact snd_plain rfl hp (s_slot a b d f)
    · cases q
  | cst d =>
    intro X c E h t e q
    unfold ok at q
    obtain ⟨hp, q⟩ := Bool.and_eq_true_iff.mp q
    split at q
    · exact snd_plain rfl hp (cst_of q)
    · cases q
  | gc x =>
    intro X c E h t e q
    unfold ok at q
    obtain ⟨hp, q⟩ := Bool.and_eq_true_iff.mp q
    split at q
    · obtain ⟨a, b⟩ := Bool.and_eq_true_iff.mp q
      obtain rfl := of_decide_eq_true a
      obtain ⟨g, d⟩ := gl_of h b
      exact snd_plain rfl hp (s_gc h.con g d)
    · cases q
  | ixg x a ih =>
    intro X c E h t e q
    unfold ok at q
    obtain ⟨hp, q⟩ := Bool.and_eq_true_iff.mp q
    split at q
    · simp only [Bool.and_eq_true] at q
      obtain ⟨⟨⟨⟨a1, a2⟩, a3⟩, a4⟩, a5⟩ := q
      obtain rfl := of_decide_eq_true a1
      obtain ⟨g, d⟩ := gl_of h a2
      exact snd_plain rfl hp (s_ixg h.tab g d a3 (snd_pe (ih h _ _ a5) a4))
    · cases q
  | ing x neg a ih =>
    intro X c E h t e q
    unfold ok at q
    split at q
    · simp only [Bool.and_eq_true] at q
      obtain ⟨⟨⟨⟨a1, a2⟩, a3⟩, a4⟩, a5⟩ := q
      obtain rfl := of_decide_eq_true a1
      obtain ⟨g, d⟩ := gl_of h a2
      obtain rfl := inB_eq a3
      have pa := snd_pe (ih h _ _ a5) a4
      exact ⟨fun _ _ => s_ing h.tab g d pa, fun _ _ => ⟨s_ingT h.tab g d pa, fun _ _ _ z => nomatch z⟩, (fun z => nomatch z), fun z => nomatch z⟩
    · cases q
  | bin o a b iha ihb =>
    intro X c E h t e q
    unfold ok at q
    obtain ⟨hp, q⟩ := Bool.and_eq_true_iff.mp q
    split at q
    · simp only [Bool.and_eq_true] at q
      obtain ⟨⟨⟨⟨a1, a2⟩, a3⟩, a4⟩, a5⟩ := q
      obtain rfl := opB_eq a1
      exact snd_plain rfl hp (s_bin (h.own.b o) (snd_pe (iha h _ _ a4) a2) (snd_pe (ihb h _ _ a5) a3))
    · cases q
  | neg a ih =>
    intro X c E h t e q
    unfold ok at q
    obtain ⟨hp, q⟩ := Bool.and_eq_true_iff.mp q
    split at q
    · obtain ⟨a1, a2⟩ := Bool.and_eq_true_iff.mp q
      exact snd_plain rfl hp (s_neg h.own.n (snd_pe (ih h _ _ a2) a1))
    · cases q
  | not a ih =>
    intro X c E h t e q
    unfold ok at q
    split at q
    · obtain ⟨a1, a2⟩ := Bool.and_eq_true_iff.mp q
      have s := ih h _ _ a2
      have na : isE a = true := a1
      exact ⟨fun _ ht => s_not (s.1 na ht), fun _ ht => ⟨s_notT (s.2.1 na ht).1, fun _ _ _ z => nomatch z⟩, (fun z => nomatch z), fun z => nomatch z⟩
    · cases q
  | and a b iha ihb =>
    intro X c E h t e q
    unfold ok at q
    split at q
    · rename_i x y r pos
      simp only [Bool.and_eq_true] at q
      obtain ⟨⟨⟨a1, a2⟩, a3⟩, a4⟩ := q
      have sa := iha h _ _ a3
      have sb := ihb h _ _ a4
      have na : isE a = true := a1
      have nb : isE b = true := a2
      refine ⟨fun _ ht => s_and (sa.1 na ht) ?_, fun _ ht => ?_, (fun z => nomatch z), fun z => nomatch z⟩
      · cases r with
        | nil => exact s_one (sb.1 nb ht)
        | cons z r => exact sb.1 nb ht
      · have pw : PW X (.BoolOp .And (x :: y :: r) pos) (rdT X.K L.ct G cl mk (fun _ => E) (.and a b)) := by
          refine s_andT (sa.2.1 na ht).1 ?_
          cases r with
          | nil => exact pw_and1 (sb.2.1 nb ht).1
          | cons z r => exact (sb.2.1 nb ht).2 _ _ _ rfl
        exact ⟨pw.pt, fun _ _ _ _ => pw⟩
    · cases q
  | or a b iha ihb =>
    intro X c E h t e q
    unfold ok at q
    split at q
    · rename_i x y r pos
      simp only [Bool.and_eq_true] at q
      obtain ⟨⟨⟨a1, a2⟩, a3⟩, a4⟩ := q
      have sa := iha h _ _ a3
      have sb := ihb h _ _ a4
      have na : isE a = true := a1
      have nb : isE b = true := a2
      refine ⟨fun _ ht => s_or (sa.1 na ht) ?_, fun _ ht => ?_, (fun z => nomatch z), fun z => nomatch z⟩
      · cases r with
        | nil => exact s_one (sb.1 nb ht)
        | cons z r => exact sb.1 nb ht
      · have pw : PW X (.BoolOp .Or (x :: y :: r) pos) (rdT X.K L.ct G cl mk (fun _ => E) (.or a b)) := by
          refine s_orT (sa.2.1 na ht).1 ?_
          cases r with
          | nil => exact pw_or1 (sb.2.1 nb ht).1
          | cons z r => exact (sb.2.1 nb ht).2 _ _ _ rfl
        exact ⟨pw.pt, fun _ _ _ _ => pw⟩
    · cases q
  | cmp o a b iha ihb =>
    intro X c E h t e q
    unfold ok at q
    split at q
    · simp only [Bool.and_eq_true] at q
      obtain ⟨⟨⟨⟨⟨a1, a2⟩, a3⟩, a4⟩, a5⟩, a6⟩ := q
      obtain rfl := cpB_eq a1
      have pa := snd_pe (iha h _ _ a5) a3
      have pb := snd_pe (ihb h _ _ a6) a4
      exact ⟨fun _ _ => s_cmp h.good a2 (h.own.c o) pa pb, fun _ _ => ⟨s_cmpT h.good a2 (h.own.c o) pa pb, fun _ _ _ z => nomatch z⟩, (fun z => nomatch z), fun z => nomatch z⟩
    · cases q
  | cmp2 o p a b d iha ihb ihd =>
    intro X c E h t e q
    unfold ok at q
    split at q
    · simp only [Bool.and_eq_true] at q
      obtain ⟨⟨⟨⟨⟨⟨⟨⟨a1, a2⟩, a3⟩, a4⟩, a5⟩, a6⟩, a7⟩, a8⟩, a9⟩ := q
      obtain rfl := cpB_eq a1
      obtain rfl := cpB_eq a2
      have pa := snd_pe (iha h _ _ a7) a4
      have pb := snd_pe (ihb h _ _ a8) a5
      have pd := snd_pe (ihd h _ _ a9) a6
      exact ⟨fun _ _ => s_cmp2 h.good a3 (h.own.c o) (h.own.c p) pa pb pd, fun _ _ => ⟨s_cmp2T h.good a3 (h.own.c o) (h.own.c p) pa pb pd, fun _ _ _ z => nomatch z⟩, (fun z => nomatch z), fun z => nomatch z⟩
    · cases q
  | ite u a b ihu iha ihb =>
    intro X c E h t e q
    unfold ok at q
    obtain ⟨hp, q⟩ := Bool.and_eq_true_iff.mp q
    split at q
    · simp only [Bool.and_eq_true] at q
      obtain ⟨⟨⟨⟨⟨a1, a2⟩, a3⟩, a4⟩, a5⟩, a6⟩ := q
      have nt : t = false := by simpa using hp
      exact ⟨fun _ _ => s_ite ((ihu h _ _ a4).2.1 a1 rfl).1 (snd_pe (iha h _ _ a5) a2) (snd_pe (ihb h _ _ a6) a3), fun _ ht => absurd (nt.symm.trans ht) (by decide), (fun z => nomatch z), fun z => nomatch z⟩
    · cases q
  | nil =>
    intro X c E h t e q
    unfold ok at q
    split at q
    · exact ⟨(fun z => by cases z), (fun z => by cases z), (fun _ es k pos z => by cases z; exact s_nil), fun z => nomatch z⟩
    · cases q
  | cons a r iha ihr =>
    intro X c E h t e q
    unfold ok at q
    split at q
    · simp only [Bool.and_eq_true] at q
      obtain ⟨⟨⟨⟨a1, a2⟩, a3⟩, a4⟩, a5⟩ := q
      exact ⟨(fun z => by cases z), (fun z => by cases z), (fun _ es k pos z => by cases z; exact s_cons a1 (snd_pe (iha h _ _ a4) a2) (snd_pa (ihr h _ _ a5) a3)), fun z => nomatch z⟩
    · cases q
  | tup l ih =>
    intro X c E h t e q
    unfold ok at q
    obtain ⟨hp, q⟩ := Bool.and_eq_true_iff.mp q
    split at q
    · simp only [Bool.and_eq_true] at q
      obtain ⟨⟨a1, a2⟩, a3⟩ := q
      have hl := of_decide_eq_true a2
      exact snd_plain rfl hp (s_tup hl (snd_pa (ih h _ _ a3) a1) fun e r z => by rw [len_items (pa_len a1 a3) z]; exact hl)
    · cases q
  | lst l ih =>
    intro X c E h t e q
    unfold ok at q
    obtain ⟨hp, q⟩ := Bool.and_eq_true_iff.mp q
    split at q
    · simp only [Bool.and_eq_true] at q
      obtain ⟨⟨a1, a2⟩, a3⟩ := q
      have hl := of_decide_eq_true a2
      exact snd_plain rfl hp (s_lst (snd_pa (ih h _ _ a3) a1) fun e r z => by rw [len_items (pa_len a1 a3) z]; exact hl)
    · cases q
  | ix a b iha ihb =>
    intro X c E h t e q
    unfold ok at q
    obtain ⟨hp, q⟩ := Bool.and_eq_true_iff.mp q
    split at q
    · simp only [Bool.and_eq_true] at q
      obtain ⟨⟨⟨⟨a1, a2⟩, a3⟩, a4⟩, a5⟩ := q
      exact snd_plain rfl hp (s_ix h.good h.own.i a1 (snd_pe (iha h _ _ a4) a2) (snd_pe (ihb h _ _ a5) a3))
    · cases q
  | sl a b d iha ihb ihd =>
    intro X c E h t e q
    unfold ok at q
    obtain ⟨hp, q⟩ := Bool.and_eq_true_iff.mp q
    split at q
    · simp only [Bool.and_eq_true] at q
      obtain ⟨⟨⟨⟨⟨a1, a2⟩, a3⟩, a4⟩, a5⟩, a6⟩ := q
      exact snd_plain rfl hp (s_sl (snd_pe (iha h _ _ a4) a1) (snd_pe (ihb h _ _ a5) a2) (snd_pe (ihd h _ _ a6) a3))
    · cases q
  | slL a b iha ihb =>
    intro X c E h t e q
    unfold ok at q
    obtain ⟨hp, q⟩ := Bool.and_eq_true_iff.mp q
    split at q
    · simp only [Bool.and_eq_true] at q
      obtain ⟨⟨⟨a1, a2⟩, a4⟩, a5⟩ := q
      exact snd_plain rfl hp (s_slL (snd_pe (iha h _ _ a4) a1) (snd_pe (ihb h _ _ a5) a2))
    · cases q
  | slH a b iha ihb =>
    intro X c E h t e q
    unfold ok at q
    obtain ⟨hp, q⟩ := Bool.and_eq_true_iff.mp q
    split at q
    · simp only [Bool.and_eq_true] at q
      obtain ⟨⟨⟨a1, a2⟩, a4⟩, a5⟩ := q
      exact snd_plain rfl hp (s_slH (snd_pe (iha h _ _ a4) a1) (snd_pe (ihb h _ _ a5) a2))
    · cases q
  | att a f ih =>
    intro X c E h t e q
    unfold ok at q
    obtain ⟨hp, q⟩ := Bool.and_eq_true_iff.mp q
    split at q
    · simp only [Bool.and_eq_true] at q
      obtain ⟨⟨⟨a1, a2⟩, a3⟩, a4⟩ := q
      obtain rfl := of_decide_eq_true a1
      exact snd_plain rfl hp (s_att h.good h.cf a2 (snd_pe (ih h _ _ a4) a3))
    · cases q
  | call f l ih =>
    intro X c E h t e q
    unfold ok at q
    obtain ⟨hp, q⟩ := Bool.and_eq_true_iff.mp q
    split at q
    · simp only [Bool.and_eq_true] at q
      obtain ⟨⟨⟨⟨a1, a2⟩, a3⟩, a4⟩, a5⟩ := q
      obtain ⟨g, d⟩ := gl_of h a1
      obtain ⟨m1, k1⟩ := h.fns _ _ (of_decide_eq_true a2)
      exact snd_plain rfl hp (call_of h g m1 k1 d a3 a4 a5 (snd_pa (ih h _ _ a5) a4))
    · cases q
  | make k l ih =>
    intro X c E h t e q
    unfold ok at q
    obtain ⟨hp, q⟩ := Bool.and_eq_true_iff.mp q
    split at q
    · simp only [Bool.and_eq_true] at q
      obtain ⟨⟨⟨⟨a1, a2⟩, a3⟩, a4⟩, a5⟩ := q
      obtain ⟨g, d⟩ := gl_of h a1
      obtain ⟨m1, k1⟩ := h.cls _ _ (of_decide_eq_true a2)
      exact snd_plain rfl hp (s_make h.good g m1 k1 d a3 (snd_pa (ih h _ _ a5) a4))
    · cases q
  | meth a m l iha ihl =>
    intro X c E h t e q
    unfold ok at q
    obtain ⟨hp, q⟩ := Bool.and_eq_true_iff.mp q
    split at q
    · simp only [Bool.and_eq_true] at q
      obtain ⟨⟨⟨⟨⟨⟨⟨⟨a1, a2⟩, a3⟩, a4⟩, a5⟩, a6⟩, a7⟩, a8⟩, a9⟩ := q
      obtain rfl := of_decide_eq_true a1
      have po := snd_pe (iha h _ _ a8) a6
      have pa := snd_pa (ihl h _ _ a9) a7
      exact snd_plain rfl hp (meth_of h a2 a3 a4 (of_decide_eq_true a5) a7 a9 po pa)
    · cases q
  | blt b l ih =>
    intro X c E h t e q
    unfold ok at q
    obtain ⟨hp, q⟩ := Bool.and_eq_true_iff.mp q
    rcases Bool.or_eq_true_iff.mp q with q | q
    · split at q
      · simp only [Bool.and_eq_true] at q
        obtain ⟨⟨⟨⟨⟨⟨a0, a1⟩, a2⟩, a3⟩, a4⟩, a5⟩, a6⟩ := q
        obtain rfl := of_decide_eq_true a0
        obtain ⟨g, d⟩ := gl_of h a2
        exact snd_plain rfl hp (s_blt h.good h.own.l (by rintro rfl; cases a1) g (h.blt _ a3) a4 (snd_pa (ih h _ _ a6) a5))
      · cases q
    · split at q
      · simp only [Bool.and_eq_true] at q
        obtain ⟨⟨⟨⟨⟨⟨⟨⟨⟨a0, a1⟩, a2⟩, a3⟩, a4⟩, a5⟩, a6⟩, a7⟩, a8⟩, a9⟩ := q
        obtain rfl := of_decide_eq_true a1
        obtain rfl := of_decide_eq_true a4
        cases b <;> first | (cases a0; done) | skip
        exact snd_plain rfl hp (s_sset2 h.calm (gl_of h a2).1 (h.blt _ a3) (gl_of h a5).1 (h.blt _ a6) a7 (snd_pa (ih h _ _ a9) a8))
      · cases q
  | isi a ty ih =>
    intro X c E h t e q
    unfold ok at q
    obtain ⟨hp, q⟩ := Bool.and_eq_true_iff.mp q
    split at q
    · simp only [Bool.and_eq_true] at q
      obtain ⟨⟨⟨⟨⟨⟨⟨a1, a2⟩, a3⟩, a4⟩, a5⟩, a6⟩, a7⟩, a8⟩ := q
      obtain rfl := of_decide_eq_true a1
      obtain ⟨g, d⟩ := gl_of h a2
      exact snd_plain rfl hp (s_isi h.isa g (h.blt _ a3) (snd_pe (ih h _ _ a8) a6) (isaTy_pe h a7) a4 a5)
    · cases q
  | comp vs tg it tt el ihi iht ihe =>
    intro X c E h t e q
    unfold ok at q
    obtain ⟨hp, q⟩ := Bool.and_eq_true_iff.mp q
    split at q
    · simp only [Bool.and_eq_true] at q
      obtain ⟨⟨⟨⟨⟨⟨⟨⟨⟨⟨a1, a2⟩, a3⟩, a4⟩, a5⟩, a6⟩, a7⟩, a8⟩, a9⟩, a10⟩, a11⟩ := q
      have hi := snd_pi (ihi h _ _ a9) a6 a7
      have hbk := blkOk_by a1
      rw [← h.N, ← h.sc] at hbk
      have hv : ∀ i ∈ tg, i ∈ vs := fun i hi' => by
        have := List.all_eq_true.mp a2 i hi'
        simpa using this
      refine snd_plain rfl hp ?_
      split at a11
      · refine s_comp h.calm h.nd hi hbk (own_vs _ _) hv (fun s H C cl' fp => tgB_pg (h.blk (s := s) (H := H) (C := C) (cl' := cl') (fp := fp)) a8) (fun s H C cl' fp => pts_nil) (fun s H C cl' fp => snd_pe (ihe (h.blk (s := s) (H := H) (C := C) (cl' := cl') (fp := fp)) _ _ a10) a5) (fold_of a3) fun σ H Q z => ?_
        unfold yesM at a11
        split at a11
        · subst a11
          exact yes_read z
        · cases a11
      · exact s_comp h.calm h.nd hi hbk (own_vs _ _) hv (fun s H C cl' fp => tgB_pg (h.blk (s := s) (H := H) (C := C) (cl' := cl') (fp := fp)) a8) (fun s H C cl' fp => pts_one ((iht (h.blk (s := s) (H := H) (C := C) (cl' := cl') (fp := fp)) _ _ a11).2.1 a4 rfl).1)
          (fun s H C cl' fp => snd_pe (ihe (h.blk (s := s) (H := H) (C := C) (cl' := cl') (fp := fp)) _ _ a10) a5) (fold_of a3) fun σ H Q z => z
      · cases a11
    · cases q
  | rng l ih =>
    intro X c E h t e q
    unfold ok at q
    split at q
    · simp only [Bool.and_eq_true] at q
      obtain ⟨⟨⟨⟨⟨⟨a1, a2⟩, a3⟩, a4⟩, a5⟩, a6⟩, a7⟩ := q
      obtain rfl := of_decide_eq_true a1
      obtain ⟨g, d⟩ := gl_of h a2
      exact ⟨(fun z => nomatch z), (fun z => nomatch z), (fun z => nomatch z), fun _ tg _ => rng_pi g (h.blt _ a3) a4 a6 (pa_len a5 a7) (snd_pa (ih h _ _ a7) a5)⟩
    · cases q
  | zip l ih =>
    intro X c E h t e q
    unfold ok at q
    split at q
    · simp only [Bool.and_eq_true] at q
      obtain ⟨⟨⟨⟨⟨⟨a1, a2⟩, a3⟩, a4⟩, a5⟩, a6⟩, a7⟩ := q
      obtain rfl := of_decide_eq_true a1
      obtain ⟨g, d⟩ := gl_of h a2
      exact ⟨(fun z => nomatch z), (fun z => nomatch z), (fun z => nomatch z), fun _ tg ht => zip_pi g (h.blt _ a3) a4 (of_decide_eq_true a6) (ht rfl) (pa_len a5 a7) (snd_pa (ih h _ _ a7) a5)⟩
    · cases q
  | enum _ _ => intro X c E h t e q; unfold ok at q; cases q
  | dead =>
    intro X c E h t e q
    exact ⟨fun _ _ => s_dead, fun _ _ => ⟨s_deadT, fun _ _ _ _ => s_deadW⟩, (fun z => nomatch z), fun z => nomatch z⟩
  | clm k m l ih =>
    intro X c E h t e q
    unfold ok at q
    obtain ⟨hp, q⟩ := Bool.and_eq_true_iff.mp q
    split at q
    · simp only [Bool.and_eq_true] at q
      obtain ⟨⟨⟨⟨⟨⟨⟨a1, a2⟩, a3⟩, a4⟩, a5⟩, a6⟩, a7⟩, a8⟩ := q
      obtain rfl := of_decide_eq_true a1
      obtain ⟨g, d⟩ := gl_of h a2
      exact snd_plain rfl hp (s_clm h.good h.cf g (h.cls _ _ (of_decide_eq_true a3)).1 d a4 a5 (of_decide_eq_true a6) (snd_pa (ih h _ _ a8) a7))
    · cases q
  | stm k m l ih =>
    intro X c E h t e q
    unfold ok at q
    obtain ⟨hp, q⟩ := Bool.and_eq_true_iff.mp q
    split at q
    · simp only [Bool.and_eq_true] at q
      obtain ⟨⟨⟨⟨a1, a2⟩, a3⟩, a4⟩, a5⟩ := q
      obtain rfl := of_decide_eq_true a1
      obtain ⟨g, d⟩ := gl_of h a2
      cases l <;> first | (cases a5; done) | skip
      exact snd_plain rfl hp (s_stm h.good h.cf g (h.cls _ _ (of_decide_eq_true a3)).1 d a4)
    · cases q
  | mkv i l ih =>
    intro X c E h t e q
    unfold ok at q
    obtain ⟨hp, q⟩ := Bool.and_eq_true_iff.mp q
    split at q
    · simp only [Bool.and_eq_true] at q
      obtain ⟨⟨⟨a1, a2⟩, a3⟩, a4⟩ := q
      obtain ⟨b1, b2, b3, b4⟩ := sl_of h a1
      exact snd_plain rfl hp (s_mkv h.good h.cf b1 b2 b3 b4 a2 (snd_pa (ih h _ _ a4) a3))
    · cases q
  | sset vs tg it tt el ihi iht ihe =>
    intro X c E h t e q
    unfold ok at q
    obtain ⟨hp, q⟩ := Bool.and_eq_true_iff.mp q
    split at q
    · simp only [Bool.and_eq_true] at q
      obtain ⟨⟨⟨⟨⟨⟨⟨⟨⟨⟨⟨⟨⟨z1, z2⟩, z3⟩, a1⟩, a2⟩, a3⟩, a4⟩, a5⟩, a6⟩, a7⟩, a8⟩, a9⟩, a10⟩, a11⟩ := q
      obtain rfl := of_decide_eq_true z1
      have hi := snd_pi (ihi h _ _ a9) a6 a7
      have hbk := blkOk_by a1
      rw [← h.N, ← h.sc] at hbk
      have hv : ∀ i ∈ tg, i ∈ vs := fun i hi' => by
        have := List.all_eq_true.mp a2 i hi'
        simpa using this
      refine snd_plain rfl hp ?_
      split at a11
      · refine s_sset h.calm (gl_of h z2).1 (h.blt _ z3) h.nd hi hbk (own_vs _ _) hv (fun s H C cl' fp => tgB_pg (h.blk (s := s) (H := H) (C := C) (cl' := cl') (fp := fp)) a8) (fun s H C cl' fp => pts_nil) (fun s H C cl' fp => snd_pe (ihe (h.blk (s := s) (H := H) (C := C) (cl' := cl') (fp := fp)) _ _ a10) a5) (fold_of a3) fun σ H Q z => ?_
        unfold yesM at a11
        split at a11
        · subst a11
          exact yes_read z
        · cases a11
      · exact s_sset h.calm (gl_of h z2).1 (h.blt _ z3) h.nd hi hbk (own_vs _ _) hv (fun s H C cl' fp => tgB_pg (h.blk (s := s) (H := H) (C := C) (cl' := cl') (fp := fp)) a8) (fun s H C cl' fp => pts_one ((iht (h.blk (s := s) (H := H) (C := C) (cl' := cl') (fp := fp)) _ _ a11).2.1 a4 rfl).1)
          (fun s H C cl' fp => snd_pe (ihe (h.blk (s := s) (H := H) (C := C) (cl' := cl') (fp := fp)) _ _ a10) a5) (fold_of a3) fun σ H Q z => z
      · cases a11
    · cases q
  | lamc i m ih =>
    intro X c E h t e q
    unfold ok at q
    obtain ⟨hp, q⟩ := Bool.and_eq_true_iff.mp q
    split at q
    · simp only [Bool.and_eq_true] at q
      obtain ⟨⟨⟨⟨⟨⟨⟨a1, a2⟩, a3⟩, a4⟩, a5⟩, a6⟩, a7⟩, a8⟩ := q
      obtain ⟨c0, P, l1, l2, l3, l4⟩ := h.lam a1
      obtain ⟨hd, e1, e2⟩ := h.hds _ _ (of_decide_eq_true a4)
      have hr : Room ((k + 1) + 2) X.A := h.room.mono (by have := of_decide_eq_true a2; omega)
      rw [← h.sc] at a5
      rename_i params body scope lpos pos
      obtain rfl : params = ⟨[], [], none, [], [], none, []⟩ := by
        unfold noPar at a6
        split at a6
        · rfl
        · cases a6
      exact snd_plain rfl hp (s_lamc h.cf e1 e2 (gl_of h a3).1 l2 l1 l3 l4 hr (LamX.lamS_by a5) rfl (fun _ _ _ _ _ => rfl) fun A outer s H E' f c' hr' => snd_pe (ih (h.lamb hr') _ _ a8) a7)
    · cases q
end
end Dv
end
section
set_option Elab.async false
set_option linter.all false
set_option maxRecDepth 100000
set_option maxHeartbeats 8000000
/-! The text beside the small language: statements. -/
namespace Dv
open PySem PySem.Spec PyProof.Rows L2
variable [Tt]
def noComp : Expr → Bool
  | .ListComp _ _ _ _ => false
  | .SetComp _ _ _ _ => false
  | .DictComp _ _ _ _ _ => false
  | _ => true
theorem sw_no {e : Expr} (h : noComp e = true) (t : Option Expr) (l : Nat) (env : PySem.Env) : swapsWith e t l env = pure false := by
  cases e <;> first | rfl | cases h
def noTup : Expr → Bool
  | .Tuple _ _ _ => false
  | _ => true
/-- y = [..] on one line -/
def swB (c : Cc) (x : Str) (p : Pos) (a : Expr) : Bool := match a with
  | .ListComp _ _ scope _ => decide (c.sc.names.lookup x = some .local) && (p.line == a.pos.line) && !(scope.names.any fun (n, k) => n == x && (k == .local || k == .cell))
  | _ => false
def addSub : Bop → Bool
  | .add => true
  | .sub => true
  | _ => false
def isFrz : S → Bool
  | .frz _ => true
  | _ => false
def isDead : M → Bool
  | .dead => true
  | _ => false
def okS (c : Cc) : S → Bool → List Stmt → Bool
  | .dead, _, _ => true
  | .done, l, ss => l && ss.isEmpty
  | .seq s r, l, ss => (match l, ss with
    | true, st :: sts => okS c s false [st] && okS c r true sts
    | false, ss => isFrz s && okS c r false ss
    | _, _ => false)
  | .asg i m, l, ss => !l && (match ss with
    | [.Assign [.Name x p] a _] => tnB c i x && isE m && ok c m false a && (noComp a || (swB c x p a && !isDead m))
    | _ => false)
  | .unp is m, l, ss => !l && (match ss with
    | [.Assign [tg] a _] => tgB c is tg && isTup tg && isE m && ok c m false a && noComp a && noTup a
    | _ => false)
  | .par i j a b, l, ss => !l && (match ss with
    | [.Assign [.Tuple [.Name x px, .Name y py] _ _] (.Tuple [e1, e2] _ _) _] => decide (c.N[i]? = some x) && decide (c.N[j]? = some y) && decide (i ≠ j) && decide (c.sc.names.lookup x = some .local) && decide (c.sc.names.lookup y = some .local) && noStar e1 && noStar e2 && (px.line == py.line) && decide (x ≠ y) &&
        !([e1, e2].all (foldedForSure 8)) && !([e1, e2].all (constantsAlone 8)) && isE a && isE b && ok c a false e1 && ok c b false e2
    | _ => false)
  | .app i m, l, ss => !l && (match ss with
    | [.Expr (.Call (.Attribute (.Name x _) n apos) [a] [] cpos) _] => decide (n = "append") && slB c i x && (apos.endLine == cpos.line) && noStar a && isE m && ok c m false a
    | _ => false)
  | .ext i m, l, ss => !l && (match ss with
    | [.Expr (.Call (.Attribute (.Name x _) n apos) [a] [] cpos) _] => decide (n = "extend") && slB c i x && (apos.endLine == cpos.line) && noStar a && isE m && ok c m false a
    | _ => false)
  | .seti _ _ _, _, _ => false
  | .setf f m, l, ss => !l && (match ss with
    | [.Assign [.Attribute (.Name x _) g _] a _] => decide (f = g) && slB c 0 x && noComp a && isE m && ok c m false a
    | _ => false)
  | .aug i o m, l, ss => !l && (match ss with
    | [.AugAssign (.Name x _) op a _] => tnB c i x && opB' o op && addSub o && isE m && ok c m false a
    | _ => false)
  | .ex m, l, ss => !l && (match ss with
    | [.Expr a _] => noComp a && isE m && ok c m false a
    | _ => false)
  | .ite t a b, l, ss => !l && (match ss with
    | [.If x y z _] => isE t && ok c t true x && okS c a true y && okS c b true z
    | _ => false)
  | .for_ tg it b, l, ss => !l && (match ss with
    | [.For tgt iter body [] _] => tgB c tg tgt && !isSetE iter && !isA it && (!isZip it || isTup tgt) && ok c it false iter && okS c b true body
    | _ => false)
  | .whl t b, l, ss => !l && (match ss with
    | [.While x body [] _] => isE t && ok c t true x && okS c b true body
    | _ => false)
  | .ret m, l, ss => !l && (match ss with
    | [.Return (some a) _] => isE m && ok c m false a
    | _ => false)
  | .rets i, l, ss => !l && (match ss with
    | [.Return (some (.Name x _)) _] => slB c i x
    | _ => false)
  | .retn, l, ss => !l && (match ss with
    | [.Return none _] => true
    | _ => false)
  | .brk, l, ss => !l && (match ss with
    | [.Break _] => true
    | _ => false)
  | .cnt, l, ss => !l && (match ss with
    | [.Continue _] => true
    | _ => false)
  | .pass, l, ss => !l && (match ss with
    | [.Pass _] => true
    | [.Expr (.Constant (.str _) _ _) _] => true
    | _ => false)
  | .raise kk, l, ss => !l && (match ss with
    | [.Raise (some (.Call (.Name x _) [.Constant (.str _) _ _] [] _)) none _] => glB c.sc x && decide (c.exc.lookup x = some kk)
    | _ => false)
  | .frz _, _, _ => false
structure Sok (X : Cx) (L : Lk) (G : Gm) (c : Cc) (cl : Nat → List D → Res (D × Kd)) (mk : Nat → List D → Res D) (k : Nat) (E : XK) : Prop extends Cok X L G c cl mk k E where
  po : PassesOwn (model X.prog X.w) X.A X.env X.xe
  bk : X.env.blockKind = .function
  isd : c.df = true
  exc : ∀ x kk, Gl X x → c.exc.lookup x = some kk → ∀ (m : Str) (j : Nat) (p p2 pos : Pos), PMk X (.Call (.Name x p) [.Constant (.str m) j p2] [] pos) (fun _ H Q => Q (.ref (L.ct kk)) none H)
section
variable {X : Cx} {L : Lk} {G : Gm} {c : Cc} {cl : Nat → List D → Res (D × Kd)} {mk : Nat → List D → Res D} {k wf : Nat} {E : XK}
def SndS (X : Cx) (L : Lk) (G : Gm) (cl : Nat → List D → Res (D × Kd)) (mk : Nat → List D → Res D) (wf : Nat) (E : XK) (s : S) (l : Bool) (ss : List Stmt) : Prop :=
  (l = true → ∀ F0 H0 p0, PSs X ss (rdS X.K L.ct G cl mk wf E F0 H0 p0 s)) ∧ (l = false → ∀ st, ss = [st] → ∀ F0 H0 p0, PS X st (rdS X.K L.ct G cl mk wf E F0 H0 p0 s))
theorem snd_st {s : S} {l : Bool} {st : Stmt} (hl : (!l) = true) (h : ∀ F0 H0 p0, PS X st (rdS X.K L.ct G cl mk wf E F0 H0 p0 s)) : SndS X L G cl mk wf E s l [st] := by
  cases l
  · exact ⟨(fun z => by cases z), fun _ st' e => by cases e; exact h⟩
  · cases hl
theorem tn_of (h : Sok X L G c cl mk k E) {i : Nat} {x : Str} (q : tnB c i x = true) : X.N[i]? = some x ∧ Loc X.env.scope x ∧ X.fn x = true := by
  unfold tnB at q
  obtain ⟨a, b⟩ := Bool.and_eq_true_iff.mp q
  have a := of_decide_eq_true a
  rw [← h.N] at a
  simp only [Bool.or_eq_true, Bool.and_eq_true, decide_eq_true_eq] at b
  rw [← h.sc] at b
  exact ⟨a, b.elim .inl fun z => .inr z.2, h.df h.isd x⟩
theorem sw_yes (h : Sok X L G c cl mk k E) {x : Str} {p : Pos} {elt : Expr} {gs : List Comprehension} {scope : Scope} {pos : Pos} {l : Nat} (q : swB c x p (.ListComp elt gs scope pos) = true) : swapsWith (.ListComp elt gs scope pos) (some (.Name x p)) l X.env = pure true ∧ X.env.scope.names.lookup x = some .local := by
  unfold swB at q
  simp only [Bool.and_eq_true] at q
  obtain ⟨⟨a1, a2⟩, a3⟩ := q
  have a1 := of_decide_eq_true a1
  rw [← h.sc] at a1
  refine ⟨?_, a1⟩
  unfold swapsWith
  have e : X.env.kindOf x = some .local := a1
  simp only [pure_bind]
  rw [h.bk, e]
  have b1 : (ScopeKind.function == ScopeKind.function) = true := by rfl
  have b2 : ((some NameKind.local : Option NameKind) == some .local) = true := by decide
  rw [b1, b2, a2, a3]
  rfl
theorem par_sw (h : Sok X L G c cl mk k E) {x y : Str} {px py pt pt2 : Pos} {kt k2 : Nat} {e1 e2 : Expr} (hx : X.env.scope.names.lookup x = some .local) (hy : X.env.scope.names.lookup y = some .local) (h1 : noStar e1 = true) (h2 : noStar e2 = true) (hl : (px.line == py.line) = true) (ne : x ≠ y)
    (f1 : (!([e1, e2].all (foldedForSure 8))) = true) (f2 : (!([e1, e2].all (constantsAlone 8))) = true) : swappedStores [.Tuple [.Name x px, .Name y py] kt pt] (.Tuple [e1, e2] k2 pt2) X.env = pure (some [x, y]) := by
  have ex : X.env.kindOf x = some .local := hx
  have ey : X.env.kindOf y = some .local := hy
  have nf : ∀ {b : Bool}, (!b) = true → ¬ b = true := fun {b} z => by cases b <;> simp_all
  have f1 := nf f1
  have f2 := nf f2
  have l1 : py.line = px.line := (beq_iff_eq.mp hl).symm
  unfold swappedStores
  simp only [pure_bind]
  rw [h.bk, if_neg (by simp), if_neg (by cases e1 <;> first | (cases h1; done) | (cases e2 <;> first | (cases h2; done) | exact Bool.false_ne_true))]
  generalize hn : List.filterMap _ [Expr.Name x px, Expr.Name y py] = names
  have fm : names = [x, y] := by
    have p1 : (Expr.Name x px).pos.line = px.line := rfl
    rw [← hn]
    simp [ex, ey, l1, p1]
  rw [fm, if_neg (by simp [List.eraseDups_cons, ne, Ne.symm ne]), if_neg f1, if_neg f2]
theorem unp_of (h : Sok X L G c cl mk k E) {is : List Nat} {tg a : Expr} {m : M} {pos : Pos} {F0 H0 : Hp} {p0 : Addr} (a1 : tgB c is tg = true) (a2 : isTup tg = true) (a5 : noComp a = true) (a6 : noTup a = true) (pa : PE X a (rd X.K L.ct G cl mk (fun _ => E) m)) :
    PS X (.Assign [tg] a pos) (rdS X.K L.ct G cl mk wf E F0 H0 p0 (.unp is m)) := by
  cases tg <;> first | (cases a2; done) | skip
  unfold tgB at a1
  split at a1
  · rename_i e; cases e
  · rename_i e
    cases e
    obtain ⟨h1, h2⟩ := tgs_plain c a1 X.env
    refine S_unp (pg_tup h.calm (tns_pgs h.toCok a1) h1 h2) (by unfold swapsWithSole; exact sw_no a5 _ _ _) ?_ rfl pa
    cases a <;> first | rfl | cases a6
  · cases a1
/-- a list comprehension is no other form -/
theorem no_comp {m : M} {a : Expr} {x : Str} {p : Pos} (nd : (!isDead m) = true) (q : ok c m false a = true) (sw : swB c x p a = true) (n : ∀ vs tg it tt el, m ≠ .comp vs tg it tt el) : False := by
  unfold swB at sw
  split at sw
  · cases m <;> first | exact n _ _ _ _ _ rfl | (cases nd; done) | (unfold ok at q; simp at q)
  · cases sw
theorem asg_of (h : Sok X L G c cl mk k E) {i : Nat} {x : Str} {p pos : Pos} {a : Expr} {m : M} {F0 H0 : Hp} {p0 : Addr} (a1 : tnB c i x = true) (a2 : isE m = true) (a3 : ok c m false a = true) (a4 : (noComp a || (swB c x p a && !isDead m)) = true) :
    PS X (.Assign [.Name x p] a pos) (rdS X.K L.ct G cl mk wf E F0 H0 p0 (.asg i m)) := by
  obtain ⟨t1, t2, t3⟩ := tn_of h a1
  by_cases nc : noComp a = true
  · exact S_asg h.nd t1 t2 (sw_no nc _ _ _) (.inl t3) (snd_pe (ok_sound m h.toCok _ _ a3) a2)
  · obtain ⟨sw, nd⟩ : swB c x p a = true ∧ (!isDead m) = true := by
      rcases Bool.or_eq_true_iff.mp a4 with z | z
      · exact (nc z).elim
      · exact Bool.and_eq_true_iff.mp z
    cases m <;> first | (exfalso; refine no_comp nd a3 sw fun _ _ _ _ _ z => ?_; cases z; done) | skip
    rename_i vs tg it tt el
    have h := h
    unfold ok at a3
    obtain ⟨_, q⟩ := Bool.and_eq_true_iff.mp a3
    split at q
    · obtain ⟨s1, s2⟩ := sw_yes (l := pos.line) h sw
      simp only [Bool.and_eq_true] at q
      obtain ⟨⟨⟨⟨⟨⟨⟨⟨⟨⟨b1, b2⟩, b3⟩, b4⟩, b5⟩, b6⟩, b7⟩, b8⟩, b9⟩, b10⟩, b11⟩ := q
      have hi := snd_pi (ok_sound it h.toCok _ _ b9) b6 b7
      have hbk := blkOk_by b1
      rw [← h.N, ← h.sc] at hbk
      have hv : ∀ i ∈ tg, i ∈ vs := fun i hi' => by
        have := List.all_eq_true.mp b2 i hi'
        simpa using this
      split at b11
      · refine S_asgC h.calm h.nd t1 s2 s1 hi hbk (own_vs _ _) hv (fun s H C cl' fp => tgB_pg (h.toCok.blk (s := s) (H := H) (C := C) (cl' := cl') (fp := fp)) b8) (fun s H C cl' fp => pts_nil) (fun s H C cl' fp => snd_pe (ok_sound el (h.toCok.blk (s := s) (H := H) (C := C) (cl' := cl') (fp := fp)) _ _ b10) b5) (fold_of b3) fun σ H Q z => ?_
        unfold yesM at b11
        split at b11
        · subst b11
          exact yes_read z
        · cases b11
      · exact S_asgC h.calm h.nd t1 s2 s1 hi hbk (own_vs _ _) hv (fun s H C cl' fp => tgB_pg (h.toCok.blk (s := s) (H := H) (C := C) (cl' := cl') (fp := fp)) b8) (fun s H C cl' fp => pts_one ((ok_sound tt (h.toCok.blk (s := s) (H := H) (C := C) (cl' := cl') (fp := fp)) _ _ b11).2.1 b4 rfl).1)
          (fun s H C cl' fp => snd_pe (ok_sound el (h.toCok.blk (s := s) (H := H) (C := C) (cl' := cl') (fp := fp)) _ _ b10) b5) (fold_of b3) fun σ H Q z => z
      · cases b11
    · cases q
theorem okS_sound (h : Sok X L G c cl mk k E) : ∀ (s : S) (l : Bool) (ss : List Stmt), okS c s l ss = true → SndS X L G cl mk wf E s l ss := by
  intro s
  induction s with
  | dead =>
    intro l ss _
    exact ⟨fun _ F0 H0 p0 => ⟨fun pins s σ H D I h => by
      obtain ⟨F, e, o', h⟩ := h
      exact h.elim⟩, fun _ st _ F0 H0 p0 => ⟨fun pins s σ H D I h => by
      obtain ⟨F, e, o', h⟩ := h
      exact h.elim⟩⟩
  | done =>
    intro l ss q
    unfold okS at q
    obtain ⟨a, b⟩ := Bool.and_eq_true_iff.mp q
    subst a
    cases ss with
    | nil => exact ⟨fun _ _ _ _ => S_done, fun z => nomatch z⟩
    | cons _ _ => cases b
  | seq s r ihs ihr =>
    intro l ss q
    unfold okS at q
    split at q
    · obtain ⟨a, b⟩ := Bool.and_eq_true_iff.mp q
      exact ⟨fun _ F0 H0 p0 => S_seq ((ihs _ _ a).2 rfl _ rfl F0 H0 p0) ((ihr _ _ b).1 rfl F0 H0 p0), fun z => nomatch z⟩
    · obtain ⟨a, b⟩ := Bool.and_eq_true_iff.mp q
      refine ⟨(fun z => nomatch z), fun _ st e F0 H0 p0 => ?_⟩
      cases s <;> first | (cases a; done) | skip
      exact S_frz ((ihr _ _ b).2 rfl st e F0 H0 p0)
    · cases q
  | asg i m =>
    intro l ss q
    unfold okS at q
    obtain ⟨hl, q⟩ := Bool.and_eq_true_iff.mp q
    split at q
    · simp only [Bool.and_eq_true] at q
      obtain ⟨⟨⟨a1, a2⟩, a3⟩, a4⟩ := q
      exact snd_st hl fun F0 H0 p0 => asg_of h a1 a2 a3 a4
    · cases q
  | unp is m =>
    intro l ss q
    unfold okS at q
    obtain ⟨hl, q⟩ := Bool.and_eq_true_iff.mp q
    split at q
    · simp only [Bool.and_eq_true] at q
      obtain ⟨⟨⟨⟨⟨a1, a2⟩, a3⟩, a4⟩, a5⟩, a6⟩ := q
      exact snd_st hl fun F0 H0 p0 => unp_of h a1 a2 a5 a6 (snd_pe (ok_sound m h.toCok _ _ a4) a3)
    · cases q
  | par i j a b =>
    intro l ss q
    unfold okS at q
    obtain ⟨hl, q⟩ := Bool.and_eq_true_iff.mp q
    split at q
    · simp only [Bool.and_eq_true] at q
      obtain ⟨⟨⟨⟨⟨⟨⟨⟨⟨⟨⟨⟨⟨⟨a1, a2⟩, a3⟩, a4⟩, a5⟩, a6⟩, a7⟩, a8⟩, a9⟩, a10⟩, a11⟩, a12⟩, a13⟩, a14⟩, a15⟩ := q
      have b1 := of_decide_eq_true a1
      have b2 := of_decide_eq_true a2
      have b4 := of_decide_eq_true a4
      have b5 := of_decide_eq_true a5
      rw [← h.N] at b1 b2
      rw [← h.sc] at b4 b5
      exact snd_st hl fun F0 H0 p0 => S_par h.calm h.nd b1 b2 (of_decide_eq_true a3) b4 b5 a6 a7 (par_sw h b4 b5 a6 a7 a8 (of_decide_eq_true a9) a10 a11) (snd_pe (ok_sound a h.toCok _ _ a14) a12) (snd_pe (ok_sound b h.toCok _ _ a15) a13)
    · cases q
  | app i m =>
    intro l ss q
    unfold okS at q
    obtain ⟨hl, q⟩ := Bool.and_eq_true_iff.mp q
    split at q
    · simp only [Bool.and_eq_true] at q
      obtain ⟨⟨⟨⟨⟨a1, a2⟩, a3⟩, a4⟩, a5⟩, a6⟩ := q
      obtain rfl := of_decide_eq_true a1
      obtain ⟨s1, s2, s3, s4⟩ := sl_of h.toCok a2
      exact snd_st hl fun F0 H0 p0 => S_app s1 s2 s3 s4 a3 a4 (snd_pe (ok_sound m h.toCok _ _ a6) a5)
    · cases q
  | ext i m =>
    intro l ss q
    unfold okS at q
    obtain ⟨hl, q⟩ := Bool.and_eq_true_iff.mp q
    split at q
    · simp only [Bool.and_eq_true] at q
      obtain ⟨⟨⟨⟨⟨a1, a2⟩, a3⟩, a4⟩, a5⟩, a6⟩ := q
      obtain rfl := of_decide_eq_true a1
      obtain ⟨s1, s2, s3, s4⟩ := sl_of h.toCok a2
      exact snd_st hl fun F0 H0 p0 => S_ext s1 s2 s3 s4 a3 a4 (snd_pe (ok_sound m h.toCok _ _ a6) a5)
    · cases q
  | seti _ _ _ => intro l ss q; unfold okS at q; cases q
  | setf f m =>
    intro l ss q
    unfold okS at q
    obtain ⟨hl, q⟩ := Bool.and_eq_true_iff.mp q
    split at q
    · simp only [Bool.and_eq_true] at q
      obtain ⟨⟨⟨⟨a1, a2⟩, a3⟩, a4⟩, a5⟩ := q
      obtain rfl := of_decide_eq_true a1
      obtain ⟨s1, s2, s3, s4⟩ := sl_of h.toCok a2
      exact snd_st hl fun F0 H0 p0 => S_setf h.cf (pe_var s1 s2 s3 s4) (snd_pe (ok_sound m h.toCok _ _ a5) a4) (sw_no a3 _ _ _)
    · cases q
  | aug i o m =>
    intro l ss q
    unfold okS at q
    obtain ⟨hl, q⟩ := Bool.and_eq_true_iff.mp q
    split at q
    · simp only [Bool.and_eq_true] at q
      obtain ⟨⟨⟨⟨a1, a2⟩, a3⟩, a4⟩, a5⟩ := q
      obtain rfl := opB_eq a2
      obtain ⟨t1, t2, t3⟩ := tn_of h a1
      exact snd_st hl fun F0 H0 p0 => S_aug (by cases o <;> first | exact .inl rfl | exact .inr rfl | cases a3) h.nd t1 t2 (.inl t3) (snd_pe (ok_sound m h.toCok _ _ a5) a4)
    · cases q
  | ex m =>
    intro l ss q
    unfold okS at q
    obtain ⟨hl, q⟩ := Bool.and_eq_true_iff.mp q
    split at q
    · simp only [Bool.and_eq_true] at q
      obtain ⟨⟨a1, a2⟩, a3⟩ := q
      exact snd_st hl fun F0 H0 p0 => S_ex (sw_no a1 _ _ _) (snd_pe (ok_sound m h.toCok _ _ a3) a2)
    · cases q
  | ite t a b iha ihb =>
    intro l ss q
    unfold okS at q
    obtain ⟨hl, q⟩ := Bool.and_eq_true_iff.mp q
    split at q
    · simp only [Bool.and_eq_true] at q
      obtain ⟨⟨⟨a1, a2⟩, a3⟩, a4⟩ := q
      exact snd_st hl fun F0 H0 p0 => S_ite ((ok_sound t h.toCok _ _ a2).2.1 a1 rfl).1 ((iha _ _ a3).1 rfl F0 H0 p0) ((ihb _ _ a4).1 rfl F0 H0 p0)
    · cases q
  | for_ tg it b ih =>
    intro l ss q
    unfold okS at q
    obtain ⟨hl, q⟩ := Bool.and_eq_true_iff.mp q
    split at q
    · simp only [Bool.and_eq_true] at q
      obtain ⟨⟨⟨⟨⟨a1, a2⟩, a3⟩, a4⟩, a5⟩, a6⟩ := q
      exact snd_st hl fun F0 H0 p0 => S_for h.po h.calm (snd_pi (ok_sound it h.toCok _ _ a5) a3 a4) (tgB_pg h.toCok a1) (fun F0 H0 p0 => (ih _ _ a6).1 rfl F0 H0 p0) (fold_of a2)
    · cases q
  | whl t b ih =>
    intro l ss q
    unfold okS at q
    obtain ⟨hl, q⟩ := Bool.and_eq_true_iff.mp q
    split at q
    · simp only [Bool.and_eq_true] at q
      obtain ⟨⟨a1, a2⟩, a3⟩ := q
      exact snd_st hl fun F0 H0 p0 => S_whl h.po ((ok_sound t h.toCok _ _ a2).2.1 a1 rfl).1 ((ih _ _ a3).1 rfl F0 H0 p0)
    · cases q
  | ret m =>
    intro l ss q
    unfold okS at q
    obtain ⟨hl, q⟩ := Bool.and_eq_true_iff.mp q
    split at q
    · obtain ⟨a1, a2⟩ := Bool.and_eq_true_iff.mp q
      exact snd_st hl fun F0 H0 p0 => S_ret (snd_pe (ok_sound m h.toCok _ _ a2) a1)
    · cases q
  | rets i =>
    intro l ss q
    unfold okS at q
    obtain ⟨hl, q⟩ := Bool.and_eq_true_iff.mp q
    split at q
    · obtain ⟨s1, s2, s3, s4⟩ := sl_of h.toCok q
      exact snd_st hl fun F0 H0 p0 => S_rets s1 s2 s3 s4
    · cases q
  | retn =>
    intro l ss q
    unfold okS at q
    obtain ⟨hl, q⟩ := Bool.and_eq_true_iff.mp q
    split at q
    · exact snd_st hl fun F0 H0 p0 => S_retn
    · cases q
  | brk =>
    intro l ss q
    unfold okS at q
    obtain ⟨hl, q⟩ := Bool.and_eq_true_iff.mp q
    split at q
    · exact snd_st hl fun F0 H0 p0 => S_brk
    · cases q
  | cnt =>
    intro l ss q
    unfold okS at q
    obtain ⟨hl, q⟩ := Bool.and_eq_true_iff.mp q
    split at q
    · exact snd_st hl fun F0 H0 p0 => S_cnt
    · cases q
  | pass =>
    intro l ss q
    unfold okS at q
    obtain ⟨hl, q⟩ := Bool.and_eq_true_iff.mp q
    split at q
    · exact snd_st hl fun F0 H0 p0 => S_pass
    · exact snd_st hl fun F0 H0 p0 => S_doc
    · cases q
  | raise kk =>
    intro l ss q
    unfold okS at q
    obtain ⟨hl, q⟩ := Bool.and_eq_true_iff.mp q
    split at q
    · obtain ⟨a1, a2⟩ := Bool.and_eq_true_iff.mp q
      exact snd_st hl fun F0 H0 p0 => S_raise h.calm h.tk (h.exc _ _ (gl_of h.toCok a1).1 (of_decide_eq_true a2) _ _ _ _ _)
    · cases q
  | frz _ => intro l ss q; unfold okS at q; cases q
end
end Dv
end
section
set_option Elab.async false
set_option linter.all false
set_option maxRecDepth 100000
set_option maxHeartbeats 8000000
/-! Defs of the text: each is the small language's. -/
namespace Dv
open PySem PySem.Spec PyProof.Rows L2
variable [Tt]
/-- what is known of the whole text's names -/
structure Facts (P : Program) (w : World) (K : PySem.W.Frag) (mg : Str → Option Value) (base : Heap) (L : Lk) (G : Gm) (c : Cc) : Prop where
  fns : ∀ x f, c.fns.lookup x = some f → mg x = some (.ref (L.fa f)) ∧ PySem.W.keepIn K (.ref (L.fa f)) = true
  cls : ∀ x k, c.cls.lookup x = some k → mg x = some (.ref (L.ct k)) ∧ PySem.W.keepIn K (.ref (L.ct k)) = true
  blt : ∀ x, c.blt.contains x = true → mg x = none
  cf : ∀ c k, G.cls[c]? = some k → ClsF K L c k
  con : ∀ x d, G.consts.lookup x = some d → ∃ u v, mg x = some u ∧ RelV v u ∧ ∀ F, Rep K L.ct F d v
  tab : ∀ x l, G.tabs.lookup x = some l → ∃ d es n, mg x = some (.ref d) ∧ KDict K w d es n ∧ ∀ z, (∀ dz, l.lookup z = some dz → ∃ u v, PySem.W.nsIn K d z = some (some u) ∧ RelV v u ∧ ∀ F, Rep K L.ct F dz v) ∧ (l.lookup z = none → PySem.W.nsIn K d z = some none)
  isa : IsaF K L G
  hds : ∀ x i, c.hds.lookup x = some i → ∃ hd, G.hds[i]? = some hd ∧ HdF K mg L x hd
  own : ∀ (cl : Nat → List D → Res (D × Kd)) (mk : Nat → List D → Res D) (k : Nat) (X : Cx) (E : XK), X.prog = P → X.w = w → X.K = K → X.mg = mg → X.base = base → CallsOk X.prog X.w X.K X.mg X.base L cl mk k → X.calm = true → Room (k + 1) X.A → Takes X (fun cls d _ H => E cls d H) → Good X L cl mk (fun _ => E) → OwnAll X L G cl (fun _ => E)
  exc : ∀ (X : Cx), X.prog = P → X.w = w → X.K = K → X.mg = mg → X.base = base → ∀ x kk, Gl X x → c.exc.lookup x = some kk → ∀ (m : Str) (j : Nat) (p p2 pos : Pos), PMk X (.Call (.Name x p) [.Constant (.str m) j p2] [] pos) (fun _ H Q => Q (.ref (L.ct kk)) none H)
section
variable {P : Program} {w : World} {K : PySem.W.Frag} {mg : Str → Option Value} {base : Heap} {L : Lk} {G : Gm} {wf : Nat}
def ccOf (c : Cc) (N : List Str) (sc : Scope) (lm : Bool) : Cc := { c with N := N, sc := sc, df := true, rm := 2, lm := lm }
/-- lambdas may be made in a def with this code object -/
def LamF (base : Heap) (mg : Str → Option Value) (qual : Str) (cdv : Value) : Prop := ∃ c0 P, cdv = .ref c0 ∧ LamX.TabB base mg c0 P ∧ (P, (envOfC qual default 0 0 cdv).qual ++ "<lambda>") ∈ Tt.T ∧ ∀ p ∈ Tt.T, p.1 = P → p.2 = (envOfC qual default 0 0 cdv).qual ++ "<lambda>"
theorem cok_def {c : Cc} (T : Facts P w K mg base L G c) {cl : Nat → List D → Res (D × Kd)} {mk : Nat → List D → Res D} {k : Nat} (hc : CallsOk P w K mg base L cl mk k) {N : List Str} (nd : N.Nodup) {qual : Str} {sc : Scope} {f : Addr} {cdv : Value} {A : Around} {outer : List PySem.Env} {s : Shared} {H : Hp} {E : XK} {lm : Bool} (hlm : lm = true → LamF base mg qual cdv)
    (hr : Room (k + 3) (A.deeper (envOfC qual sc s.heap.objs.size f cdv))) : Cok (cxOf (L2.CX P w) P w K mg base N qual sc f cdv A outer s H E) L G (ccOf c N sc lm) cl mk k E where
  calls := hc
  room := (show Room (k + 1 + 2) (A.deeper (envOfC qual sc s.heap.objs.size f cdv)) from hr)
  calm := rfl
  tk := takes_of (E₁ := fun e' s'' => L2.CX P w outer H s E e' s'') rfl rfl rfl rfl
  mkOwn := fun X' E' h1 h2 h3 h4 h5 hcalm hroom htk hg => T.own cl mk k X' E' h1 h2 h3 h4 h5 (by rw [h1, h2, h3, h4, h5]; exact hc) hcalm hroom htk hg
  N := rfl
  nd := nd
  sc := rfl
  df := fun _ _ => rfl
  fns := T.fns
  cls := T.cls
  blt := T.blt
  cf := T.cf
  con := fun x d q => ⟨T.con x d q⟩
  tab := fun x l q => ⟨T.tab x l q⟩
  isa := T.isa
  lam := fun z => by
    obtain ⟨c0, P0, h1, h2, h3, h4⟩ := hlm z
    have e : (cxOf (L2.CX P w) P w K mg base N qual sc f cdv A outer s H E).env.qual = (envOfC qual default 0 0 cdv).qual := rfl
    rw [e]
    exact ⟨c0, P0, h1, h2, h3, h4⟩
  hds := T.hds
theorem sok_def {c : Cc} (T : Facts P w K mg base L G c) {cl : Nat → List D → Res (D × Kd)} {mk : Nat → List D → Res D} {k : Nat} (hc : CallsOk P w K mg base L cl mk k) {N : List Str} (nd : N.Nodup) {qual : Str} {sc : Scope} {f : Addr} {cdv : Value} {A : Around} {outer : List PySem.Env} {s : Shared} {H : Hp} {E : XK} {lm : Bool} (hlm : lm = true → LamF base mg qual cdv) (hk : sc.kind = .function)
    (hr : Room (k + 3) (A.deeper (envOfC qual sc s.heap.objs.size f cdv))) : Sok (cxOf (L2.CX P w) P w K mg base N qual sc f cdv A outer s H E) L G (ccOf c N sc lm) cl mk k E :=
  { cok_def T hc nd hlm hr with
    po := passes_of (K := fun e s'' => L2.CX P w outer H s E e s'') (E₁ := fun e' s'' => L2.CX P w outer H s E e' s'') rfl
    bk := by
      show (if sc.kind.isAnnotationScope then ScopeKind.function else sc.kind) = _
      rw [hk]
      rfl
    isd := rfl
    exc := fun x kk g q => T.exc _ rfl rfl rfl rfl rfl x kk g q }
/-- a def of the text is what the literal says -/
theorem defOk_by {c : Cc} (T : Facts P w K mg base L G c) {x qual : Str} {st : Stmt} {fd : FuncData} {N ps : List Str} {f : Nat} {d : Df} (lm : Bool) (hlm : lm = true → LamF base mg qual fd.code) (hF : Fun K x qual st (L.fa f) fd) (S : FnScope N ps (defScope st)) (hb : Binds K fd ps []) (h1 : ps.length = d.np) (h2 : N.length = d.ns)
    (hk : okS (ccOf c N (defScope st) lm) d.body true (defBody st) = true) : DefOk P w K mg base L G wf f d :=
  ⟨x, qual, st, fd, N, ps, hF, S, hb, h1, h2, fun cl mk k hc A outer s H E hr F0 H0 p0 => (okS_sound (wf := wf) (sok_def T hc S.nd hlm S.kind hr) d.body true (defBody st) hk).1 rfl F0 H0 p0⟩
end
end Dv
end
section
set_option Elab.async false
set_option linter.all false
set_option maxRecDepth 100000
set_option maxHeartbeats 8000000
/-! The law. -/
namespace Dv
open PySem PySem.Spec PyProof.Rows L2
variable [Tt]
section
variable {P : Program} {w : World} {K : PySem.W.Frag} {mg : Str → Option Value} {base : Heap} {L : Lk} {G : Gm} {wf : Nat}
/-- what the law is called with, and what is wanted -/
def spLaw (K : PySem.W.Frag) (n : Nat) : Sp := fun vs H Q _ => ∃ (a : Addr) (ns : List Int), vs = [.ref a] ∧ SqL K H a (ns.map V.int) ∧ ns.length ≤ n ∧ LamX.Tabs Tt.T H ∧ ∀ H', Q (.bl true) H'
theorem noT_at {H : Hp} {a : Addr} {o : HO} (h : H a = some o) (n : ∀ ps, o ≠ .tbl ps) : noT H a = some o := by
  unfold noT
  split
  · rename_i z
    obtain ⟨ps, z⟩ := z
    rw [h] at z
    exact (n ps (Option.some.inj z)).elim
  · exact h
theorem noT_sl {H : Hp} {a : Addr} {xs : List V} (h : SqL K H a xs) : SqL K (noT H) a xs := by
  rcases h with (h | ⟨o, h⟩) | h
  · exact .inl (.inl (noT_at h fun _ z => nomatch z))
  · exact .inl (.inr ⟨o, noT_at h fun _ z => nomatch z⟩)
  · exact .inr h
/-- the law's own def, one call above the others -/
theorem law_fn {c : Cc} (T : Facts P w K mg base L G c) {n m : Nat} (hd : ∀ f d, G.defs[f]? = some d → DefOk P w K mg base L G wf f d) (hm : ∀ c kk, G.cls[c]? = some kk → Mk K (L.ct c) (L.fa kk.init))
    {x qual y : Str} {st : Stmt} {fd : FuncData} {N : List Str} {f : Addr} {d : Df} (lm : Bool) (hlm : lm = true → LamF base mg qual fd.code) (hF : Fun K x qual st f fd) (S : FnScope N [y] (defScope st)) (h1 : d.np = 1) (h2 : N.length = d.ns) (hk : okS (ccOf c N (defScope st) lm) d.body true (defBody st) = true)
    (law : ∀ ns : List Int, ns.length ≤ m → ∃ kd, evS G (evC G wf n).1 (evC G wf n).2 wf d.body (Dv.envOf d.np d.ns [.scr ns]) = .rt (.bl true) kd) : FnOk P w K mg base (L2.CX P w) (4 * n + 4) f fd [y] (spLaw K m) := by
  have hc := calls_ok (P := P) (w := w) (K := K) (mg := mg) (base := base) hd hm n
  refine fun_code hF S (fun vs H Q E h => ?_) fun A outer s H vs Q E hr hsp => ?_
  · obtain ⟨a, ns, rfl, _⟩ := h
    rfl
  · obtain ⟨a, ns, rfl, hS, hl, ht, q⟩ := hsp
    obtain ⟨kd, e⟩ := law ns hl
    refine ⟨_, (okS_sound (wf := wf) (sok_def T hc S.nd hlm S.kind hr) d.body true (defBody st) hk).1 rfl (noT H) H 0, noT H, _, start_ss (noT_in ht) (.cons (.scr (noT_sl hS)) .nil) h1.symm h2, ?_⟩
    rw [e]
    intro F' H' v st kr
    have := kr.1.any.bl
    subst this
    exact q H'
end
end Dv
end
section
set_option Elab.async false
set_option linter.all false
set_option maxRecDepth 100000
set_option maxHeartbeats 8000000
/-! Operators of own classes. -/
namespace Dv
open PySem PySem.Spec PyProof.Rows L2
variable [Tt]
section
variable {X : Cx} {L : Lk} {G : Gm} {cl : Nat → List D → Res (D × Kd)} {mk : Nat → List D → Res D} {E : L2.St → XK}
/-- an instance, as the special calls ask for it -/
theorem inst_of {pins : List (Addr × Obj)} {s : Shared} {σ : L2.St} {H : Hp} {p C dx : Addr} {fs : List (Str × V)} (I : Inv X pins σ H s) (e : H p = some (.ins C dx fs)) : ∃ ox od, PySem.W.InstAt s.heap p ox C od := by
  obtain ⟨mA, O, _⟩ := ins_get I.hok e
  obtain ⟨od, J, _⟩ := O.look
  exact ⟨_, _, J⟩
theorem rep_ins {K : PySem.W.Frag} {ct : CT} {F H : Hp} {c : Nat} {l : List (Str × D)} {v : V} (i : In F H) (r : Rep K ct F (.ins c l) v) : ∃ p dx ws, v = .ref p ∧ H p = some (.ins (ct c) dx ws) := by
  cases r with
  | ins h _ => exact ⟨_, _, _, rfl, i _ _ h⟩
theorem own_neg (g : Good X L cl mk E) (cf : ∀ c k, G.cls[c]? = some k → ClsF X.K L c k) (pins : List (Addr × Obj)) (s : Shared) (σ : L2.St) (F H : Hp) (c f : Nat) (fs : List (Str × D)) (v : V) (vv : Value) (Q : VK) (I : Inv X pins σ H s) (rv : RelV v vv) (i : In F H) (r : Rep X.K L.ct F (.ins c fs) v)
    (hl : lookC G c "__neg__" = some f) (p : Post X.K L.ct F H (E σ) Q (cl f [.ins c fs])) : wpAny (model X.prog X.w) X.A (unaryOp .USub vv) (EP X pins σ Q) X.xe s := by
  obtain ⟨hc, hm⟩ := clsF_m cf hl
  obtain ⟨a, dx, ws, rfl, hp⟩ := rep_ins i r
  cases rv
  obtain ⟨m, hF⟩ := I.fr
  obtain ⟨ox, od, J⟩ := inst_of I hp
  exact PySem.W.ksp_neg hF I.ok.mod.kin J hm.at_ hm.fn ((g.call f).wp (us := [.ref a]) (vs := [.ref a]) I (.cons rfl .nil) i (.cons r .nil) p)
theorem plain_ixT {b : Expr} (h : noSlice b = true) (o i : Value) : subscripted b true o i = runValue (.builtin "lifetime.subscript" ⟨[o, i], []⟩) := by
  unfold subscripted
  split
  · cases h
  · rfl
  · rename_i z; cases z
theorem own_ix (g : Good X L cl mk E) (cf : ∀ c k, G.cls[c]? = some k → ClsF X.K L c k) (ns : ∀ c f, lookC G c "__getitem__" = some f → PySem.W.fnIn X.K (L.fa f) = true) : OwnI X L G cl E := by
  intro value slice pins s σ F H c f fs y v u vv uu Q hs I rv ru i r ry hl p
  obtain ⟨hc, hm⟩ := clsF_m cf hl
  obtain ⟨a, dx, ws, rfl, hp⟩ := rep_ins i r
  cases rv
  obtain ⟨m, hF⟩ := I.fr
  obtain ⟨ox, od, J⟩ := inst_of I hp
  exact PySem.W.sub_K hF I.ok.mod.kin J hm.at_ (ns c f hl) hm.fn ((g.call f).wp1 (us := [.ref a, uu]) (vs := [.ref a, u]) I (.cons rfl (.cons ru .nil)) i (.cons r (.cons ry .nil)) p) (plain_ixT hs _ _)
theorem own_len (g : Good X L cl mk E) (cf : ∀ c k, G.cls[c]? = some k → ClsF X.K L c k) : OwnL X L G cl E := by
  intro pins s σ F H c fs v vv Q I rv i r p
  unfold bltM at p
  dsimp only at p
  cases hl : lookC G c "__len__" with
  | none => rw [hl] at p; exact p.elim
  | some f =>
    rw [hl] at p
    dsimp only at p
    obtain ⟨hc, hm⟩ := clsF_m cf hl
    obtain ⟨a, dx, ws, rfl, hp⟩ := rep_ins i r
    cases rv
    obtain ⟨m, hF⟩ := I.fr
    obtain ⟨ox, od, J⟩ := inst_of I hp
    have q : Post X.K L.ct F H (E σ) (fun w H' => ∃ n : Int, w = .int n ∧ 0 ≤ n ∧ n < 2 ^ 62 ∧ Q (.int n) H') (cl f [.ins c fs]) := by
      cases z : cl f [.ins c fs] with
      | er x => rw [z] at p; exact p
      | bad => rw [z] at p; exact p
      | ok x =>
        rw [z] at p
        obtain ⟨d, k⟩ := x
        simp only [Res.bind] at p
        cases d <;> first | exact p.elim | skip
        rename_i n
        dsimp only at p
        split at p
        · rename_i hn
          intro F' H' w st kr
          obtain rfl := kr.1.any.int
          exact ⟨n, rfl, hn.1, hn.2, p F' H' _ st kr⟩
        · exact p.elim
    refine PySem.W.len_K hF I.ok.mod.kin J hm.at_ hm.fn (wpAny_mono ((g.call f).wp1 (us := [.ref a]) (vs := [.ref a]) I (.cons rfl .nil) i (.cons r .nil) q) (fun w s' h => ?_) fun _ _ x => x)
    obtain ⟨z, H', I', rz, n, rfl, h0, h1, qz⟩ := h
    obtain ⟨t, rfl⟩ := (show ∃ t, w = Value.int n t from rz)
    exact ⟨⟨h0, by omega⟩, .int n, H', I'.tok _, ⟨_, rfl⟩, qz⟩
/-- a result that is True or False, told on -/
theorem post_bl {F H : Hp} {Er : XK} {Q : VK} {r : Res (D × Kd)} {g : Bool → D} (p : Post X.K L.ct F H Er Q ((r.bind fun r => match r.1 with | .bl b => .ok b | _ => .bad).bind fun b => .ok (g b, .frz))) (hg : ∀ b F', ∃ w, Rep X.K L.ct F' (g b) w) :
    Post X.K L.ct F H Er (fun w H' => ∃ b, w = .bl b ∧ ∀ w', (∀ F', Rep X.K L.ct F' (g b) w') → Q w' H') r := by
  cases r with
  | er x => exact p
  | bad => exact p
  | ok x =>
    obtain ⟨d, k⟩ := x
    simp only [Res.bind] at p
    cases d <;> first | exact p.elim | skip
    rename_i b
    intro F' H' w st kr
    obtain rfl := kr.1.any.bl
    exact ⟨b, rfl, fun w' hw => p F' H' w' st (KRep.frz (hw F'))⟩
theorem own_mem (g : Good X L cl mk E) (cf : ∀ c k, G.cls[c]? = some k → ClsF X.K L c k) {pins : List (Addr × Obj)} {s : Shared} {σ : L2.St} {F H : Hp} {x : D} {c : Nat} {fs : List (Str × D)} {v u : V} {vv uu : Value} {Q : VK} (I : Inv X pins σ H s) (rv : RelV v vv) (ru : RelV u uu) (i : In F H) (rx : Rep X.K L.ct F x v) (ry : Rep X.K L.ct F (.ins c fs) u)
    (p : Post X.K L.ct F H (E σ) Q ((cmpM G cl .mem true x (.ins c fs)).bind fun b => .ok (.bl b, .frz))) : wpAny (model X.prog X.w) X.A (compareOp .In vv uu) (EP X pins σ Q) X.xe s := by
  have p : Post X.K L.ct F H (E σ) Q (((match lookC G c "__contains__" with
    | some f => (cl f [.ins c fs, x]).bind fun r => match r.1 with | .bl b => .ok b | _ => .bad
    | none => .bad) : Res Bool).bind fun b => .ok (.bl b, .frz)) := by
    unfold cmpM at p
    cases q : isIns x <;> rw [q] at p <;> exact p
  cases hl : lookC G c "__contains__" with
  | none => rw [hl] at p; exact p.elim
  | some f =>
    rw [hl] at p
    dsimp only at p
    obtain ⟨hc, hm⟩ := clsF_m cf hl
    obtain ⟨a, dx, ws, rfl, hp⟩ := rep_ins i ry
    cases ru
    obtain ⟨m, hF⟩ := I.fr
    obtain ⟨ox, od, J⟩ := inst_of I hp
    have q := post_bl (g := .bl) p fun b F' => ⟨_, .bl⟩
    refine PySem.W.in_K hF I.ok.mod.kin J hm.at_ hm.fn (wpAny_mono ((g.call f).wp (us := [.ref a, vv]) (vs := [.ref a, v]) I (.cons rfl (.cons rv .nil)) i (.cons ry (.cons rx .nil)) q) (fun w s' h => ?_) fun _ _ x => x)
    obtain ⟨z, H', I', rz, b, rfl, qz⟩ := h
    cases rz
    exact wpAny_truthy_bool ⟨.bl b, H', I', rfl, qz (.bl b) fun F' => .bl⟩
theorem opN_eq (o : Bop) : opN o = PySem.dunder (pyOp o).info.2 := by cases o <;> rfl
theorem back_of {P : Value → Shared → Prop} {z : V} {v : Value} {s' : Shared} (r : RelV z v) (h : P v s') : PySem.W.CmpBack P v s' := SlX.cmpback r h
/-- an instance on the left, an int, a bool, a text or None on the right -/
theorem own_binF (g : Good X L cl mk E) (cf : ∀ c k, G.cls[c]? = some k → ClsF X.K L c k) {o : Bop} {T : String} {fo ro rc : Option Value} {c f : Nat} {fs : List (Str × D)} {y : D} {pins : List (Addr × Obj)} {s : Shared} {σ : L2.St} {F H : Hp} {v u : V} {vv uu : Value} {Q : VK}
    (hl : lookC G c (opN o) = some f) (hsf : PySem.W.selfFirst X.K (L.ct c) = true) (hr : PySem.W.findIn X.K (.ref (L.ct c)) (dunderR (pyOp o).info.2) = some rc) (hpr : rc = none ∨ ∃ g : Addr, rc = some (.ref g))
    (h1 : PySem.W.findIn X.K (.type T) (PySem.dunder (pyOp o).info.2) = some fo) (h2 : PySem.W.findIn X.K (.type T) (dunderR (pyOp o).info.2) = some ro) (hsub : PySem.W.subIn X.K (.type T) (.ref (L.ct c)) = some false) (hb : typeOf uu = pure (.type T))
    (I : Inv X pins σ H s) (rv : RelV v vv) (ru : RelV u uu) (i : In F H) (rx : Rep X.K L.ct F (.ins c fs) v) (ry : Rep X.K L.ct F y u) (p : Post X.K L.ct F H (E σ) Q (cl f [.ins c fs, y])) : wpAny (model X.prog X.w) X.A (binaryOp (pyOp o) vv uu) (EP X pins σ Q) X.xe s := by
  obtain ⟨hc, hm⟩ := clsF_m cf hl
  obtain ⟨a, dx, ws, rfl, hp⟩ := rep_ins i rx
  cases rv
  obtain ⟨m, hF⟩ := I.fr
  obtain ⟨ox, od, J⟩ := inst_of I hp
  refine PySem.W.ksp_binT hF I.ok.mod.kin J hb hsf (by rw [← opN_eq]; exact hm.at_) hm.fn hr hpr h1 h2 hsub (wpAny_mono ((g.call f).wp (us := [.ref a, uu]) (vs := [.ref a, u]) I (.cons rfl (.cons ru .nil)) i (.cons rx (.cons ry .nil)) p) (fun w s' h => ?_) fun _ _ x => x)
  obtain ⟨z, H', I', rz, qz⟩ := h
  exact back_of rz ⟨z, H', I', rz, qz⟩
/-- two instances of one class -/
theorem own_binO (g : Good X L cl mk E) (cf : ∀ c k, G.cls[c]? = some k → ClsF X.K L c k) {o : Bop} {c f : Nat} {fs fs' : List (Str × D)} {pins : List (Addr × Obj)} {s : Shared} {σ : L2.St} {F H : Hp} {v u : V} {vv uu : Value} {Q : VK}
    (hl : lookC G c (opN o) = some f) (hsf : PySem.W.selfFirst X.K (L.ct c) = true)
    (I : Inv X pins σ H s) (rv : RelV v vv) (ru : RelV u uu) (i : In F H) (rx : Rep X.K L.ct F (.ins c fs) v) (ry : Rep X.K L.ct F (.ins c fs') u) (p : Post X.K L.ct F H (E σ) Q (cl f [.ins c fs, .ins c fs'])) : wpAny (model X.prog X.w) X.A (binaryOp (pyOp o) vv uu) (EP X pins σ Q) X.xe s := by
  obtain ⟨hc, hm⟩ := clsF_m cf hl
  obtain ⟨a, dx, ws, rfl, hp⟩ := rep_ins i rx
  obtain ⟨b, dy, ws', rfl, hq⟩ := rep_ins i ry
  cases rv
  cases ru
  obtain ⟨m, hF⟩ := I.fr
  obtain ⟨ox, od, J⟩ := inst_of I hp
  obtain ⟨ox', od', J'⟩ := inst_of I hq
  refine PySem.W.binop_K hF I.ok.mod.kin J J'.type hsf (by rw [← opN_eq]; exact hm.at_) hm.fn (wpAny_mono ((g.call f).wp (us := [.ref a, .ref b]) (vs := [.ref a, .ref b]) I (.cons rfl (.cons rfl .nil)) i (.cons rx (.cons ry .nil)) p) (fun w s' h => ?_) fun _ _ x => x)
  obtain ⟨z, H', I', rz, qz⟩ := h
  exact back_of rz ⟨z, H', I', rz, qz⟩
end
end Dv
end
section
set_option Elab.async false
set_option linter.all false
set_option maxRecDepth 100000
set_option maxHeartbeats 8000000
/-! != by an own __eq__ alone; an int on the left of an own operator. -/
namespace Dv.Own
open PySem PySem.Spec PyProof.Rows PySem.W
section
variable {prog : Program} {w : World} {A : Around} {E : Value → Shared → Prop} {s : Shared} {K : Frag} {x C L f : Addr} {h₀ : Heap} {m : Str → Option Value} {ox : Obj} {od : Option Obj} {name : Str} {b tb : Value}
/-- a special name that a built-in slot wrapper fills -/
theorem ifBound_B {M : Model} {id : String} {args : List Value} {Q : Option Value → Shared → Prop} (X : K.In s.heap) (I : InstAt s.heap x ox C od) (hs : findIn K (.ref C) name = some (some (.builtin id)))
    (hb : ∀ self, bindSpecial (.builtin id) self = pure (.builtin id, [self]))
    (h : wpAny M A (call (.builtin id) (.ref x :: args)) (fun v => Q (some v)) E s) : wpAny M A (callSpecialIfBound? (.ref x) name args) Q E s := by
  simp only [callSpecialIfBound?, bindSpecialIfBound?]
  refine wpAny_holding (wpAny_bind (wpAny_bind (wpAny_bind (I.type.here ((looks_findIn X hs).here ?_)))))
  refine wpAny_bind (wpAny_askSetting (wpAny_ite ?_))
  have fin : wpAny M A (call (.builtin id) ([.ref x] ++ args) >>= fun v => pure (some v)) Q E s := wpAny_bind (wpAny_mono h (fun v s' h' => wpAny_pure h') fun _ _ h' => h')
  split
  · exact wpAny_bind (wpAny_of_eq (hb _) (wpAny_pure (by exact fin)))
  · exact wpAny_tryCatch (wpAny_bind (wpAny_of_eq (hb _) (wpAny_pure (by exact fin))))
def NeB (Q : Value → Shared → Prop) (v : Value) (s' : Shared) : Prop := ∃ r, v = .bool r ∧ Q (.bool (!r)) s'
theorem ne_K {Q : Value → Shared → Prop} (hu : A.units + 1 < cLine) (F : Fr h₀ L s.heap m) (X₀ : K.In h₀) (I : InstAt s.heap x ox C od) (hb : Looks (model prog w) s.heap (typeOf b) tb) (hn : notFirst K C tb = true)
    (hne : findIn K (.ref C) "__ne__" = some (some (.builtin "object.__ne__"))) (hs : findIn K (.ref C) "__eq__" = some (some (.ref f))) (hf : isFn K (.ref f) = true) (hm : mroIn K C (.type "object") = some true)
    (h : wpAny (model prog w) A.in1 (call (.ref f) [.ref x, b]) (NeB Q) E s) : wpAny (model prog w) A (richCompare .NotEq (.ref x) b) Q E s := by
  have X := X₀.keeps F.keep
  have two : wpAny (model prog w) A (call (.builtin "object.__ne__") [.ref x, b]) (fun v s' => ∃ r : Bool, v = .bool r ∧ Q (.bool r) s') E s := by
    refine wpAny_call (codeAny_call_builtin PySem.F.cmp_object.ne.plain PySem.F.cmpEntry_ne (PySem.W.check_slot PySem.F.cmpKind_ne PySem.F.cmpSplit_ne (I.type.andThen (PySem.W.looks_mroIn X hm)) (PySem.F.cmpArgs_ne _ _) ?_))
    unfold Builtin.«object.__ne__»
    refine wpAny_bind (wpAny_of_eq (rfl : slotArgs "__ne__" 1 ⟨[.ref x, b], []⟩ = pure (.ref x, [b])) ?_)
    dsimp only
    refine wpAny_bind (wpAny_cRoomFor (show A.in1.units < cLine from hu) ?_)
    refine wpAny_bind (ifBound_K X I hs hf (wpAny_mono h (fun v s' hv => ?_) fun _ _ e => e))
    obtain ⟨r, rfl, q⟩ := hv
    dsimp only
    refine wpAny_bind (wpAny_truthy_bool (wpAny_pure ?_))
    exact ⟨_, rfl, q⟩
  have one : wpAny (model prog w) A (tryCompare (.ref x) "__ne__" b) (fun r s' => ∃ v, r = some v ∧ Q v s') E s := by
    unfold tryCompare
    refine wpAny_bind (ifBound_B X I hne PySem.F.cmp_object.ne.bind (wpAny_mono two (fun v s' hv => ?_) fun _ _ e => e))
    obtain ⟨r, rfl, q⟩ := hv
    exact wpAny_pure ⟨_, rfl, q⟩
  unfold richCompare
  simp only [oneThing_ref]
  refine wpAny_holding (wpAny_bind (wpAny_cRoomFor (Nat.lt_of_succ_lt hu) ?_))
  refine wpAny_bind (I.type.here (wpAny_bind (hb.here ?_)))
  split
  · rename_i q
    have e : subIn K tb (.ref C) = some false := by
      rcases Bool.or_eq_true_iff.mp hn with e | e
      · rw [beq_iff_eq.mp e] at q; simp at q
      · exact beq_iff_eq.mp e
    refine wpAny_bind ((looks_subIn X e).here ?_)
    simp only [Bool.false_eq_true, if_false]
    refine wpAny_bind (m := tryCompare (.ref x) "__ne__" b) (wpAny_mono one (fun r s' z => ?_) fun _ _ e => e)
    obtain ⟨v, rfl, hq⟩ := z
    exact wpAny_pure hq
  · refine wpAny_bind (wpAny_pure ?_)
    simp only [Bool.false_eq_true, if_false]
    refine wpAny_bind (m := tryCompare (.ref x) "__ne__" b) (wpAny_mono one (fun r s' z => ?_) fun _ _ e => e)
    obtain ⟨v, rfl, hq⟩ := z
    exact wpAny_pure hq
/-- int op instance: int's own slot declines -/
theorem refl_one {op : Operator} {id : String} {i : Int} {t : Tok} {yo' : Value} {Q : Value → Shared → Prop} (F : Fr h₀ L s.heap m) (X₀ : K.In h₀) (I : InstAt s.heap x ox C od) (hc : selfFirst K C = true)
    (hs : findIn K (.ref C) (dunderR op.info.2) = some (some (.ref f))) (hf : isFn K (.ref f) = true) (ho : findIn K (.ref C) (PySem.dunder op.info.2) = some (some yo')) (hyo : ∃ g : Addr, yo' = .ref g)
    (hT : fillsNumberSlot (.type "int") op.info.2 = pure true) (hsl : Slot "int" (PySem.dunder op.info.2) id) (hsub : subIn K (.ref C) (.type "int") = some false)
    (hd : wpAny (model prog w) A (call (.builtin id) [.int i t, .ref x]) (fun v s' => v = .notImplemented ∧ s' = s) E s)
    (h : wpAny (model prog w) A (call (.ref f) [.ref x, .int i t]) (W.CmpBack Q) E s) : wpAny (model prog w) A (binaryOp op (.int i t) (.ref x)) Q E s := by
  have X := X₀.keeps F.keep
  obtain ⟨cd, rest, hcd, hm⟩ := ksp_first hc
  obtain ⟨g0, rfl⟩ := hyo
  rcases hi : op.info with ⟨sym, nm'⟩
  rw [hi] at hs ho hT hsl
  dsimp only at hs ho hT hsl
  have one := ksp_try X I hs hf h
  have L3 : Looks (model prog w) s.heap (fillsNumberSlot (.ref C) nm') true := fills_K X hcd hm ho
  have L5 : Looks (model prog w) s.heap (isSubtype (.ref C) (.type "int")) false := looks_subIn X hsub
  have hne : (Value.type "int" == Value.ref C) = false := Bool.eq_false_iff.mpr fun q => by cases beq_iff_eq.mp q
  have hpy : numberSlotInPython (.type "int") nm' = pure false := rfl
  simp only [binaryOp, hi]
  refine wpAny_holding (wpAny_bind ?_)
  unfold binaryOp1
  refine wpAny_bind (wpAny_typeOf (typeIs_int s i t) (wpAny_bind (I.type.here (wpAny_bind (wpAny_of_eq hT ?_)))))
  simp only [hne, Bool.false_eq_true, if_false]
  refine wpAny_bind (L3.here ?_)
  simp only [Bool.and_self, if_true]
  refine wpAny_bind (L5.here ?_)
  simp only [Bool.false_eq_true, if_false, pure_bind, Bool.not_false, Bool.and_self, if_true, hpy]
  refine wpAny_bind (m := tryMethod (.int i t) _ (.ref x)) (wpAny_tryMethod_declines (typeIs_int s i t) hsl (wpAny_mono hd (fun v s' hv => ?_) fun _ _ e => e))
  obtain ⟨rfl, rfl⟩ := hv
  refine ⟨rfl, ?_⟩
  dsimp only
  refine wpAny_bind (m := tryMethod (.ref x) _ (.int i t)) (wpAny_mono one (fun r s' z => ?_) fun _ _ e => e)
  obtain ⟨v, rfl, hq⟩ := z
  exact wpAny_bind (wpAny_rule (wpAny_pure (wpAny_pure hq)))
/-- no int stands behind an instance -/
def plainObj (o : Obj) : Bool := match o.data with
  | .prim _ => false
  | _ => true
theorem asInt_ref {M : Model} {Q : Option Int → Shared → Prop} (hx : s.heap.get? x = some ox) (hp : plainObj ox = true) (q : Q none s) : wpAny M A (asInt? (.ref x)) Q E s := by
  unfold asInt?
  refine wpAny_bind (wpAny_load hx ?_)
  obtain ⟨c, d, data, sl⟩ := ox
  dsimp only
  cases data <;> first | exact wpAny_pure q | cases hp
theorem int_declines {nm : String} {g : Int → Int → Sem Fin} {M : Model} {i : Int} {t : Tok} {Q : Fin → Shared → Prop} (hx : s.heap.get? x = some ox) (hp : plainObj ox = true) (q : Q (.done (.ret .notImplemented)) s) :
    wpAny M A (Builtin.Int.intBinary nm g false ⟨[.int i t, .ref x], []⟩) Q E s := by
  unfold Builtin.Int.intBinary
  refine wpAny_bind (wpAny_of_eq (rfl : slotArgs nm 1 ⟨[.int i t, .ref x], []⟩ = pure (.int i t, [.ref x])) ?_)
  dsimp only
  refine wpAny_bind (wpAny_of_eq (rfl : Builtin.Int.intOfSelf (.int i t) = pure i) ?_)
  refine wpAny_bind (asInt_ref hx hp ?_)
  exact wpAny_bind (wpAny_rule (wpAny_pure q))
theorem add_declines {i : Int} {t : Tok} (hx : s.heap.get? x = some ox) (hp : plainObj ox = true) : wpAny (model prog w) A (call (.builtin "int.__add__") [.int i t, .ref x]) (fun v s' => v = .notImplemented ∧ s' = s) E s :=
  wpAny_call (codeAny_call_builtin PySem.F.slot_int_add.plain PySem.F.entry_int_add (PySem.F.slot_int_add.check _ _ _ _ _ _ _ _ (typeIs_int s i t) (PySem.F.args_int_add_2 _ _) (int_declines hx hp ⟨rfl, rfl⟩)))
theorem sub_declines {i : Int} {t : Tok} (hx : s.heap.get? x = some ox) (hp : plainObj ox = true) : wpAny (model prog w) A (call (.builtin "int.__sub__") [.int i t, .ref x]) (fun v s' => v = .notImplemented ∧ s' = s) E s :=
  wpAny_call (codeAny_call_builtin PySem.F.slot_int_sub.plain PySem.F.entry_int_sub (PySem.F.slot_int_sub.check _ _ _ _ _ _ _ _ (typeIs_int s i t) (PySem.F.args_int_sub_2 _ _) (int_declines hx hp ⟨rfl, rfl⟩)))
theorem mul_declines {i : Int} {t : Tok} (hx : s.heap.get? x = some ox) (hp : plainObj ox = true) : wpAny (model prog w) A (call (.builtin "int.__mul__") [.int i t, .ref x]) (fun v s' => v = .notImplemented ∧ s' = s) E s :=
  wpAny_call (codeAny_call_builtin PySem.F.slot_int_mul.plain PySem.F.entry_int_mul (PySem.F.slot_int_mul.check _ _ _ _ _ _ _ _ (typeIs_int s i t) (PySem.F.args_int_mul_2 _ _) (int_declines hx hp ⟨rfl, rfl⟩)))
/-- int + instance, int - instance, int * instance, by the own reflected operator -/
theorem refl_K {op : Operator} {i : Int} {t : Tok} {yo' : Value} {Q : Value → Shared → Prop} (F : Fr h₀ L s.heap m) (X₀ : K.In h₀) (I : InstAt s.heap x ox C od) (hp : plainObj ox = true) (hc : selfFirst K C = true)
    (hs : findIn K (.ref C) (dunderR op.info.2) = some (some (.ref f))) (hf : isFn K (.ref f) = true) (ho : findIn K (.ref C) (PySem.dunder op.info.2) = some (some yo')) (hyo : ∃ g : Addr, yo' = .ref g) (hsub : subIn K (.ref C) (.type "int") = some false)
    (hop : op = .Add ∨ op = .Sub ∨ op = .Mult)
    (h : wpAny (model prog w) A (call (.ref f) [.ref x, .int i t]) (W.CmpBack Q) E s) : wpAny (model prog w) A (binaryOp op (.int i t) (.ref x)) Q E s := by
  rcases hop with rfl | rfl | rfl
  · exact refl_one F X₀ I hc hs hf ho hyo PySem.F.fills_int_add PySem.F.slot_int_add hsub (add_declines I.at_ hp) h
  · exact refl_one F X₀ I hc hs hf ho hyo PySem.F.fills_int_sub PySem.F.slot_int_sub hsub (sub_declines I.at_ hp) h
  · exact refl_one F X₀ I hc hs hf ho hyo PySem.F.fills_int_mul PySem.F.slot_int_mul hsub (mul_declines I.at_ hp) h
end
end Dv.Own
end
section
set_option Elab.async false
set_option linter.all false
set_option maxRecDepth 100000
set_option maxHeartbeats 8000000
/-! Operators of own classes, all of them. -/
namespace Dv.Own
open PySem PySem.Spec PyProof.Rows PySem.W
section
variable {prog : Program} {w : World} {A : Around} {E : Value → Shared → Prop} {z : Shared} {K : Frag} {x C L f : Addr} {h₀ : Heap} {m : Str → Option Value} {ox : Obj} {od : Option Obj} {T : String}
/-- an instance on the left, a value of a built-in type on the right -/
theorem bin_T {op : Operator} {b : Value} {so sr rc : Option Value} {Q : Value → Shared → Prop} (fr : Fr h₀ L z.heap m) (kin : K.In h₀) (I : InstAt z.heap x ox C od) (tb : Looks (model prog w) z.heap (typeOf b) (.type T)) (first : selfFirst K C = true)
    (at_ : findIn K (.ref C) (PySem.dunder op.info.2) = some (some (.ref f))) (fn : isFn K (.ref f) = true) (refl : findIn K (.ref C) (dunderR op.info.2) = some rc) (py : rc = none ∨ ∃ g : Addr, rc = some (.ref g))
    (t1 : findIn K (.type T) (PySem.dunder op.info.2) = some so) (t2 : findIn K (.type T) (dunderR op.info.2) = some sr) (sub : subIn K (.type T) (.ref C) = some false)
    (run : wpAny (model prog w) A (call (.ref f) [.ref x, b]) (W.CmpBack Q) E z) : wpAny (model prog w) A (binaryOp op (.ref x) b) Q E z := by
  have X := kin.keeps fr.keep
  obtain ⟨cd, rest, e1, e2⟩ := ksp_first first
  rcases hi : op.info with ⟨sym, nm'⟩
  rw [hi] at at_ refl t1 t2
  dsimp only at at_ refl t1 t2
  have one := ksp_try X I at_ fn run
  obtain ⟨hh, g, d, tt, os⟩ := z
  have l1 : Looks (model prog w) hh (typeOf (.ref x)) (.ref C) := I.type
  have l3 : Looks (model prog w) hh (fillsNumberSlot (.ref C) nm') true := fills_K X e1 e2 at_
  have l4 : Looks (model prog w) hh (fillsNumberSlot (.type T) nm') ((so.isSome && !isSeqSlot so) || (sr.isSome && !isSeqSlot sr)) := ksp_fillsT X t1 t2
  have l5 : Looks (model prog w) hh (isSubtype (.type T) (.ref C)) false := looks_subIn X sub
  have l6 : Looks (model prog w) hh (numberSlotInPython (.ref C) nm') true := ksp_inPy X at_ refl py
  have l7 : Looks (model prog w) hh (numberSlotInPython (.type T) nm') false := Looks.of_pure rfl
  have l8 : Looks (model prog w) hh (typeLookup (.type T) (dunderR nm')) sr := looks_findIn X t2
  generalize ((so.isSome && !isSeqSlot so) || (sr.isSome && !isSeqSlot sr)) = right at l4
  have ne : (Value.ref C == Value.type T) = false := Bool.eq_false_iff.mpr fun q => by cases beq_iff_eq.mp q
  simp only [binaryOp, hi]
  refine wpAny_holding (wpAny_bind ?_)
  unfold binaryOp1
  refine wpAny_bind (l1.at (wpAny_bind (tb.at (wpAny_bind (l3.at ?_)))))
  simp only [ne, Bool.false_eq_true, if_false]
  cases right
  all_goals
    ksp_lk
    refine wpAny_mono one (fun r z' hr => ?_) fun _ _ e => e
    obtain ⟨v, rfl, hq⟩ := hr
    ksp_lk
    exact hq
def tys : List String := ["NoneType", "bool", "int", "str", "tuple", "list", "dict"]
theorem tys_mro : (tys.all fun T => match fastBuiltinMro T with | some l => l.all (fun v => (match v with | .type _ => true | _ => false)) | none => false) = true := by decide +kernel
theorem tys_sub {T : String} (h : tys.contains T = true) (C : Addr) : subIn K (.type T) (.ref C) = some false := by
  have := List.all_eq_true.mp tys_mro T (List.contains_iff_mem.mp h)
  show (fastBuiltinMro T).map (·.contains (.ref C)) = some false
  cases q : fastBuiltinMro T with
  | none => rw [q] at this; cases this
  | some l =>
    rw [q] at this
    have z : l.contains (.ref C) = false := by
      cases w : l.contains (.ref C) with
      | false => rfl
      | true =>
        have := List.all_eq_true.mp this _ (List.contains_iff_mem.mp w)
        cases this
    rw [Option.map_some, z]
theorem tys_slot : (tys.all fun T => ["add", "sub", "mul", "floordiv", "mod"].all fun n => (fastLookup T (PySem.dunder n)).isSome && (fastLookup T (dunderR n)).isSome) = true := by decide +kernel
end
end Dv.Own
namespace Dv
open PySem PySem.Spec PyProof.Rows L2
variable [Tt]
/-- what of a class its operators ask -/
structure OwnF (K : PySem.W.Frag) (L : Lk) (G : Gm) : Prop where
  sf : ∀ c k, G.cls[c]? = some k → PySem.W.selfFirst K (L.ct c) = true
  rf : ∀ (o : Bop) c k, G.cls[c]? = some k → ∃ rc, PySem.W.findIn K (.ref (L.ct c)) (dunderR (pyOp o).info.2) = some rc ∧ (rc = none ∨ ∃ g : Addr, rc = some (.ref g))
  ni : ∀ c k, G.cls[c]? = some k → PySem.W.subIn K (.ref (L.ct c)) (.type "int") = some false
  ne : ∀ c f, lookC G c "__eq__" = some f → PySem.W.findIn K (.ref (L.ct c)) "__ne__" = some (some (.builtin "object.__ne__")) ∧ PySem.W.mroIn K (L.ct c) (.type "object") = some true
  ix : ∀ c f, lookC G c "__getitem__" = some f → PySem.W.fnIn K (L.fa f) = true
theorem lookC_k {G : Gm} {c f : Nat} {m : Str} (h : lookC G c m = some f) : ∃ k, G.cls[c]? = some k := by
  unfold lookC at h
  split at h
  · rename_i k hk; exact ⟨k, hk⟩
  · cases h
section
variable {X : Cx} {L : Lk} {G : Gm} {cl : Nat → List D → Res (D × Kd)} {mk : Nat → List D → Res D} {E : L2.St → XK}
theorem looks_is {M : Model} {s : Shared} {v : Value} {T : String} (h : s.TypeIs v T) : PySem.W.Looks M s.heap (typeOf v) (.type T) := by
  cases v with
  | ref a =>
    obtain ⟨o, e, c⟩ := h
    exact (PySem.W.Looks.ld e).andThen (PySem.W.Looks.of_pure (by rw [c]))
  | _ => exact PySem.W.Looks.of_pure h
/-- of what type a value of the data is -/
theorem ty_of {pins : List (Addr × Obj)} {s : Shared} {σ : L2.St} {F H : Hp} {d : D} {v : V} {vv : Value} {n : String} (I : Inv X pins σ H s) (i : In F H) (rv : RelV v vv) (r : Rep X.K L.ct F d v) (e : tyName d = some n) (nd : ∀ l, d ≠ .dit l) : s.TypeIs vv n := by
  cases d <;> first | (cases e; done) | skip
  · cases e; cases r; cases rv; rfl
  · cases e; cases r; cases rv; rfl
  · cases e; cases r; obtain ⟨t, rfl⟩ := rv; rfl
  · cases e; cases r; obtain ⟨t, rfl⟩ := rv; rfl
  · cases e
    cases r with
    | tup h _ =>
      cases rv
      obtain ⟨its, _, p, _⟩ := I.tuple (i.st h)
      obtain ⟨o, e1, e2, _⟩ := (show s.heap.IsTuple _ its.toArray from p)
      exact ⟨o, e1, e2⟩
  · cases e
    cases r with
    | lst h _ =>
      cases rv
      obtain ⟨its, _, p, _⟩ := I.list (SqL.of (i _ _ h))
      obtain ⟨o, e1, e2, _⟩ := p.isList
      exact ⟨o, e1, e2⟩
  · cases e
    cases r with
    | dic h _ =>
      cases rv
      obtain ⟨_, _, vs, _, hd⟩ := I.hok _ _ (i _ _ h)
      exact hd.typeIs
  · exact (nd _ rfl).elim
  · cases e
    cases r with
    | scr h =>
      cases rv
      obtain ⟨its, _, p, _⟩ := I.list (i.sl h)
      obtain ⟨o, e1, e2, _⟩ := p.isList
      exact ⟨o, e1, e2⟩
theorem beside_ty {c : Nat} {y : D} (h : besideOk c y = true) : (∃ l, y = .ins c l) ∨ ∃ n, tyName y = some n ∧ Own.tys.contains n = true ∧ ∀ l, y ≠ .dit l := by
  cases y with
  | ins c' l =>
    have e : c' = c := by simpa [besideOk] using h
    subst e
    exact .inl ⟨l, rfl⟩
  | cl _ => cases h
  | dit _ => cases h
  | _ => exact .inr ⟨_, rfl, rfl, fun _ z => nomatch z⟩
theorem own_b (g : Good X L cl mk E) (cf : ∀ c k, G.cls[c]? = some k → ClsF X.K L c k) (of : OwnF X.K L G) (o : Bop) : OwnB X L G cl E o := by
  intro pins s σ F H x y v u vv uu Q I rv ru i rx ry hi p
  unfold binM at p
  cases qx : isIns x with
  | some c =>
    rw [qx] at p
    dsimp only at p
    obtain ⟨fs, rfl⟩ : ∃ fs, x = .ins c fs := by
      cases x <;> first | (cases qx; done) | skip
      cases qx
      exact ⟨_, rfl⟩
    cases hb : besideOk c y with
    | false => rw [hb] at p; exact p.elim
    | true =>
    rw [hb] at p
    cases hl : lookC G c (opN o) with
    | none => rw [hl] at p; exact p.elim
    | some f =>
    rw [hl] at p
    obtain ⟨k, hk⟩ := lookC_k hl
    rcases beside_ty hb with ⟨l, rfl⟩ | ⟨n, hn, ht, nd⟩
    · exact own_binO g cf hl (of.sf c k hk) I rv ru i rx ry p
    · obtain ⟨rc, hr, hp⟩ := of.rf o c k hk
      obtain ⟨hc, hm⟩ := clsF_m cf hl
      obtain ⟨a, dx, ws, rfl, ha⟩ := rep_ins i rx
      cases rv
      obtain ⟨m, hF⟩ := I.fr
      obtain ⟨ox, od, J⟩ := inst_of I ha
      have sl : ∃ so sr, PySem.W.findIn X.K (.type n) (PySem.dunder (pyOp o).info.2) = some so ∧ PySem.W.findIn X.K (.type n) (dunderR (pyOp o).info.2) = some sr := by
        have := List.all_eq_true.mp Own.tys_slot n (List.contains_iff_mem.mp ht)
        have := List.all_eq_true.mp this (pyOp o).info.2 (by cases o <;> decide)
        obtain ⟨a1, a2⟩ := Bool.and_eq_true_iff.mp this
        obtain ⟨so, h1⟩ := Option.isSome_iff_exists.mp a1
        obtain ⟨sr, h2⟩ := Option.isSome_iff_exists.mp a2
        exact ⟨so, sr, h1, h2⟩
      obtain ⟨so, sr, h1, h2⟩ := sl
      refine Own.bin_T hF I.ok.mod.kin J (looks_is (ty_of I i ru ry hn nd)) (of.sf c k hk) (by rw [← opN_eq]; exact hm.at_) hm.fn hr hp h1 h2 (Own.tys_sub ht _) (wpAny_mono ((g.call f).wp (us := [.ref a, uu]) (vs := [.ref a, u]) I (.cons rfl (.cons ru .nil)) i (.cons rx (.cons ry .nil)) p) (fun w s' h => ?_) fun _ _ x => x)
      obtain ⟨z, H', I', rz, qz⟩ := h
      exact back_of rz ⟨z, H', I', rz, qz⟩
  | none =>
    rw [qx] at p
    dsimp only at p
    cases qy : isIns y with
    | none => rw [qx, qy] at hi; exact (hi.elim (fun z => nomatch z) fun z => nomatch z)
    | some c =>
    rw [qy] at p
    dsimp only at p
    obtain ⟨fs, rfl⟩ : ∃ fs, y = .ins c fs := by
      cases y <;> first | (cases qy; done) | skip
      cases qy
      exact ⟨_, rfl⟩
    cases hb : leftOk o x with
    | false => rw [hb] at p; exact p.elim
    | true =>
    rw [hb] at p
    cases hl : lookC G c (opN o) with
    | none => rw [hl] at p; exact p.elim
    | some f0 =>
    cases hl2 : lookC G c (opR o) with
    | none => rw [hl, hl2] at p; exact p.elim
    | some f =>
    rw [hl, hl2] at p
    obtain ⟨k, hk⟩ := lookC_k hl
    obtain ⟨hc, hm⟩ := clsF_m cf hl
    obtain ⟨_, hm2⟩ := clsF_m cf hl2
    obtain ⟨a, dx, ws, rfl, ha⟩ := rep_ins i ry
    cases ru
    obtain ⟨m, hF⟩ := I.fr
    obtain ⟨mA, O, _⟩ := ins_get I.hok ha
    obtain ⟨od, J, _⟩ := O.look
    have e2 : opR o = dunderR (pyOp o).info.2 := by cases o <;> rfl
    obtain ⟨n, rfl⟩ : ∃ n, x = .int n := by
      cases o <;> cases x <;> first | exact ⟨_, rfl⟩ | cases hb
    cases rx
    obtain ⟨t, rfl⟩ := (show ∃ t, vv = Value.int n t from rv)
    refine Own.refl_K hF I.ok.mod.kin J rfl (of.sf c k hk) (by rw [← e2]; exact hm2.at_) hm2.fn (by rw [← opN_eq]; exact hm.at_) ⟨_, rfl⟩ (of.ni c k hk) (by cases o <;> first | exact .inl rfl | exact .inr (.inl rfl) | exact .inr (.inr rfl) | cases hb) (wpAny_mono ((g.call f).wp (us := [.ref a, .int n t]) (vs := [.ref a, .int n]) I (.cons rfl (.cons ⟨t, rfl⟩ .nil)) i (.cons ry (.cons .int .nil)) p) (fun w s' h => ?_) fun _ _ x => x)
    obtain ⟨z, H', I', rz, qz⟩ := h
    exact back_of rz ⟨z, H', I', rz, qz⟩
theorem ins_is {d : D} {c : Nat} (q : isIns d = some c) : ∃ fs, d = .ins c fs := by
  cases d <;> first | (cases q; done) | skip
  cases q
  exact ⟨_, rfl⟩
theorem cmpM_key {o : Cop} {x y : D} (hi : (isIns x).isSome = true ∨ (isIns y).isSome = true) (hm : ¬ (o = .mem ∧ (isIns y).isSome = true)) (h : cmpM G cl o true x y ≠ .bad) : (o = .eq ∨ o = .ne) ∧ ∃ c fs f, x = .ins c fs ∧ besideOk c y = true ∧ lookC G c "__eq__" = some f := by
  cases qx : isIns x with
  | none =>
    cases qy : isIns y with
    | none => rw [qx, qy] at hi; exact (hi.elim (fun z => nomatch z) fun z => nomatch z)
    | some c =>
      have e : o ≠ .mem → cmpM G cl o true x y = .bad := fun n => by
        unfold cmpM
        rw [qx, qy]
        cases o <;> first | rfl | exact (n rfl).elim
      exact (h (e fun z => hm ⟨z, by rw [qy]; rfl⟩)).elim
  | some c =>
    obtain ⟨fs, rfl⟩ := ins_is qx
    have e1 : o ≠ .eq → o ≠ .ne → o ≠ .mem → cmpM G cl o true (.ins c fs) y = .bad := fun n1 n2 n3 => by
      unfold cmpM
      cases qy : isIns y <;> cases o <;> first | rfl | exact (n1 rfl).elim | exact (n2 rfl).elim | exact (n3 rfl).elim
    have e2 : o = .mem → cmpM G cl o true (.ins c fs) y = .bad := fun n => by
      subst n
      unfold cmpM
      cases qy : isIns y with
      | none => rfl
      | some c' => exact (hm ⟨rfl, by rw [qy]; rfl⟩).elim
    have fin : besideOk c y = true → lookC G c "__eq__" ≠ none → ∃ c' fs' f, D.ins c fs = .ins c' fs' ∧ besideOk c' y = true ∧ lookC G c' "__eq__" = some f := fun hb hl => by
      cases q : lookC G c "__eq__" with
      | none => exact (hl q).elim
      | some f => exact ⟨c, fs, f, rfl, hb, q⟩
    by_cases z1 : o = .eq
    · subst z1
      refine ⟨.inl rfl, fin ?_ ?_⟩
      · cases hb : besideOk c y with
        | true => rfl
        | false =>
          refine (h ?_).elim
          unfold cmpM
          cases qy : isIns y <;> simp [isIns, hb]
      · intro hl
        refine h ?_
        unfold cmpM ownEq
        cases qy : isIns y <;> simp [isIns, hl]
    · by_cases z2 : o = .ne
      · subst z2
        refine ⟨.inr rfl, fin ?_ ?_⟩
        · cases hb : besideOk c y with
          | true => rfl
          | false =>
            refine (h ?_).elim
            unfold cmpM
            cases qy : isIns y <;> simp [isIns, hb]
        · intro hl
          refine h ?_
          unfold cmpM ownEq
          cases qy : isIns y <;> simp [isIns, hl, Res.bind]
      · by_cases z3 : o = .mem
        · exact (h (e2 z3)).elim
        · exact (h (e1 z1 z2 z3)).elim
theorem own_c (g : Good X L cl mk E) (cf : ∀ c k, G.cls[c]? = some k → ClsF X.K L c k) (of : OwnF X.K L G) (hu : X.A.units + 64 < cLine) (o : Cop) : OwnC X L G cl E o := by
  intro pins s σ F H x y v u vv uu Q I rv ru i rx ry hi p
  by_cases hm : o = .mem ∧ ∃ c fs, y = .ins c fs
  · obtain ⟨rfl, c, fs, rfl⟩ := hm
    exact own_mem g cf I rv ru i rx ry p
  · -- == and !=, an instance on the left
    have key : (o = .eq ∨ o = .ne) ∧ ∃ c fs f, x = .ins c fs ∧ besideOk c y = true ∧ lookC G c "__eq__" = some f := by
      refine cmpM_key (cl := cl) hi (fun z => hm ⟨z.1, ?_⟩) fun z => by rw [z] at p; exact p
      obtain ⟨c, q⟩ := Option.isSome_iff_exists.mp z.2
      obtain ⟨fs, e⟩ := ins_is q
      exact ⟨c, fs, e⟩
    obtain ⟨ho, c, fs, f, rfl, hb, hl⟩ := key
    obtain ⟨k, hk⟩ := lookC_k hl
    obtain ⟨hc, hme⟩ := clsF_m cf hl
    obtain ⟨a, dx, ws, rfl, ha⟩ := rep_ins i rx
    cases rv
    obtain ⟨m, hF⟩ := I.fr
    obtain ⟨ox, od, J⟩ := inst_of I ha
    have tb : ∃ tb, PySem.W.Looks (model X.prog X.w) s.heap (typeOf uu) tb ∧ PySem.W.notFirst X.K (L.ct c) tb = true := by
      rcases beside_ty hb with ⟨l, rfl⟩ | ⟨n, hn, ht, nd⟩
      · obtain ⟨b, dy, ws', rfl, hq⟩ := rep_ins i ry
        cases ru
        obtain ⟨_, _, J'⟩ := inst_of I hq
        exact ⟨_, J'.type, by unfold PySem.W.notFirst; simp⟩
      · exact ⟨_, looks_is (ty_of I i ru ry hn nd), by unfold PySem.W.notFirst; rw [Own.tys_sub ht]; simp⟩
    obtain ⟨tb, hb1, hb2⟩ := tb
    rcases ho with rfl | rfl
    · have p : Post X.K L.ct F H (E σ) Q (((cl f [.ins c fs, y]).bind fun r => match r.1 with | .bl b => .ok b | _ => .bad).bind fun b => .ok (.bl b, .frz)) := by
        unfold cmpM at p
        simp only [isIns, hb, Bool.and_self, if_true] at p
        unfold ownEq at p
        rw [hl] at p
        cases qy : isIns y <;> exact p
      have q := post_bl (g := .bl) p fun b F' => ⟨_, .bl⟩
      show wpAny _ _ (richCompare .Eq _ _) _ _ _
      refine PySem.W.cmp_K (op := .Eq) (by omega) hF I.ok.mod.kin J hb1 hb2 hme.at_ hme.fn (wpAny_mono ((g.call f).wp (us := [.ref a, uu]) (vs := [.ref a, u]) I (.cons rfl (.cons ru .nil)) i (.cons rx (.cons ry .nil)) q) (fun w s' h => ?_) fun _ _ x => x)
      obtain ⟨z, H', I', rz, b, rfl, qz⟩ := h
      cases rz
      exact ⟨.bl b, H', I', rfl, qz (.bl b) fun F' => .bl⟩
    · have p : Post X.K L.ct F H (E σ) Q (((cl f [.ins c fs, y]).bind fun r => match r.1 with | .bl b => .ok b | _ => .bad).bind fun b => .ok (.bl !b, .frz)) := by
        unfold cmpM at p
        simp only [isIns, hb, Bool.and_self, if_true] at p
        unfold ownEq at p
        rw [hl] at p
        dsimp only at p
        cases w : cl f [.ins c fs, y] with
        | er x => rw [w] at p; cases qy : isIns y <;> exact p
        | bad => rw [w] at p; cases qy : isIns y <;> exact p
        | ok r =>
          rw [w] at p
          obtain ⟨d, kd⟩ := r
          cases d <;> exact p
      have q := post_bl (g := fun b => .bl !b) p fun b F' => ⟨_, .bl⟩
      obtain ⟨hne, hmo⟩ := of.ne c f hl
      show wpAny _ _ (richCompare .NotEq _ _) _ _ _
      refine Own.ne_K (by omega) hF I.ok.mod.kin J hb1 hb2 hne hme.at_ hme.fn hmo (wpAny_mono ((g.call f).wp1 (us := [.ref a, uu]) (vs := [.ref a, u]) I (.cons rfl (.cons ru .nil)) i (.cons rx (.cons ry .nil)) q) (fun w s' h => ?_) fun _ _ x => x)
      obtain ⟨z, H', I', rz, b, rfl, qz⟩ := h
      cases rz
      exact ⟨b, rfl, .bl !b, H', I', rfl, qz (.bl !b) fun F' => .bl⟩
theorem own_all (g : Good X L cl mk E) (cf : ∀ c k, G.cls[c]? = some k → ClsF X.K L c k) (of : OwnF X.K L G) : OwnAll X L G cl E where
  b := own_b g cf of
  c := own_c g cf of g.units
  i := own_ix g cf of.ix
  l := own_len g cf
  n := fun pins s σ F H c f fs v vv Q I rv i r hl p => own_neg g cf pins s σ F H c f fs v vv Q I rv i r hl p
end
end Dv
end
section
set_option Elab.async false
set_option linter.all false
set_option maxRecDepth 100000
set_option maxHeartbeats 4000000
/-! What a row's head must tell, as one Bool of the small language's tables. -/
namespace Dv.Hk
open PySem PySem.Spec PyProof.Rows L2
abbrev Fg := PySem.W.Frag
/-- where a def stands -/
inductive Pl where
  | fn (x : Str) | meth (C m : Str) | prop (C m : Str) | cm (C m : Str) | sm (C m : Str)
def Pl.at (K : Fg) : Pl → Addr
  | .fn x => He.ga K x
  | .meth C m => He.ma K (He.ga K C) m
  | .prop C m => He5.wf K (He.ga K C) "property" m
  | .cm C m => He5.wf K (He.ga K C) "classmethod" m
  | .sm C m => He5.wf K (He.ga K C) "staticmethod" m
structure Dd where
  pl : Pl
  name : Str
  qual : Str
  st : Stmt
  N : List Str
  ps : List Str
  lm : Bool
structure Rw where
  ds : List Dd
  ord : List Str
  exs : List Str
  /-- dicts of the top: names, keys -/
  ts : List (Str × List Str)
  /-- defs that make lambdas -/
  tf : List He.Defn
def Rw.fa (R : Rw) (K : Fg) (i : Nat) : Addr := match R.ds[i]? with | some d => d.pl.at K | none => 0
def Rw.ca (R : Rw) (K : Fg) (c : Nat) : Addr := match (R.ord ++ R.exs)[c]? with | some x => He.ga K x | none => 0
def Rw.lk (R : Rw) (K : Fg) : Lk := ⟨R.fa K, R.ca K⟩
def Dd.a (d : Dd) : He5.DefA := { at_ := fun K => d.pl.at K, name := d.name, qual := d.qual, params := defArgs d.st, body := defBody d.st, scope := defScope d.st }
abbrev Al : Type := (Bool × List He5.FnW) × List (Option (List (Option (Str × Int)))) × Bool
def obs (n : Nat) (R : Rw) (ex : Fg → Bool) (g : Addr → Option Obj) : Al :=
  (((R.ds.all fun d => d.a.ok (He.frT g (He5.asA g n))), R.ds.map fun d => He5.fnA (He.frT g (He5.asA g n)) (d.pl.at (He.frT g (He5.asA g n)))), R.ts.map (fun t => He.dicW (He.frT g (He5.asA g n)) (He.ga (He.frT g (He5.asA g n)) t.1)),
    ex (He.frT g (He5.asA g n)) && He.tabsB g R.tf (He.frT g (He5.asA g n)))
def val (R : Rw) (w : World) : Al := ((true, R.ds.map fun d => d.a.val), R.ts.map (fun t => some (He.keysIn w.params t.2)), true)
structure Says (R : Rw) (ex : Fg → Bool) (w : World) (h : Heap) (K : Fg) : Prop where
  def_ : ∀ (i : Nat) (d : Dd), R.ds[i]? = some d → ∃ fd, FunD K d.name d.qual (defArgs d.st) (defBody d.st) (defScope d.st) [] [] (d.pl.at K) fd
  tab : ∀ t ∈ R.ts, He.dicW K (He.ga K t.1) = some (He.keysIn w.params t.2)
  ex : ex K = true
  hd : ∀ p ∈ R.tf, PySem.W.codeHdIn K (He.cT K p).1 (He.cT K p).2 = true
  out : ∀ p ∈ R.tf, K.lookup (He.cT K p).2 = none
  empty : ∀ p ∈ R.tf, h.get? (He.cT K p).2 = some { cls := .none, data := .fields #[] }
theorem says_of {n : Nat} {R : Rw} {ex : Fg → Bool} {w : World} {h : Heap} (e : obs n R ex h.get? = val R w) : Says R ex w h (He.frT h.get? (He5.asA h.get? n)) := by
  generalize hK : He.frT h.get? (He5.asA h.get? n) = K
  unfold obs val at e
  rw [hK] at e
  have e1 := congrArg (fun z : Al => z.1.1) e
  have e2 := congrArg (fun z : Al => z.1.2) e
  have e3 := congrArg (fun z : Al => z.2.1) e
  have e4 := congrArg (fun z : Al => z.2.2) e
  dsimp only at e1 e2 e3 e4
  obtain ⟨e4, e5⟩ := Bool.and_eq_true_iff.mp e4
  have key : ∀ p ∈ R.tf, PySem.W.codeHdIn K (He.cT K p).1 (He.cT K p).2 = true ∧ ∃ o, h.get? (He.cT K p).2 = some o ∧ He.emptyTab o = true := fun p hp => by
    obtain ⟨a, b⟩ := Bool.and_eq_true_iff.mp (List.all_eq_true.mp e5 p hp)
    refine ⟨a, ?_⟩
    cases q : h.get? (He.cT K p).2 with
    | none => rw [q] at b; cases b
    | some o => rw [q] at b; exact ⟨o, rfl, b⟩
  refine ⟨fun i d hd => ?_, fun t ht => ?_, e4, fun p hp => (key p hp).1, fun p hp => ?_, fun p hp => ?_⟩
  · have q : (R.ds.map fun d => He5.fnA K (d.pl.at K))[i]? = (R.ds.map fun d => d.a.val)[i]? := by rw [e2]
    rw [List.getElem?_map, List.getElem?_map, hd] at q
    exact He5.DefA.funD (d := d.a) (Option.some.inj q) (List.all_eq_true.mp e1 d (List.mem_of_getElem? hd))
  · obtain ⟨i, hi⟩ := List.getElem?_of_mem ht
    have q : (R.ts.map fun t => He.dicW K (He.ga K t.1))[i]? = (R.ts.map fun t => some (He.keysIn w.params t.2))[i]? := by rw [e3]
    rw [List.getElem?_map, List.getElem?_map, hi] at q
    exact Option.some.inj q
  · obtain ⟨_, o, q, z⟩ := key p hp
    rw [← hK] at q ⊢
    exact He.frT_none q z
  · obtain ⟨_, o, q, z⟩ := key p hp
    rw [q, He.emptyTab_eq z]
def hook (n : Nat) (R : Rw) (ex : Fg → Bool) : PySem.W.Hook where
  α := Al
  obs := fun s => obs n R ex s.heap.get?
  val := val R
  says := fun w h => ∃ K : Fg, K.In h ∧ Says R ex w h K
  of := fun _ _ e => ⟨_, He.frT_in, says_of e⟩
  keeps := fun _ _ _ ⟨K, hK, c⟩ k => ⟨K, PySem.W.Frag.In.keeps hK k, ⟨c.def_, c.tab, c.ex, c.hd, c.out, fun p hp => k _ _ (c.empty p hp)⟩⟩
theorem obs_eq {n : Nat} {R : Rw} {ex : Fg → Bool} {g : Addr → Option Obj} {s : Shared} (h : ∀ a, g a = s.heap.get? a) : obs n R ex g = (hook n R ex).obs s := by
  have e : g = s.heap.get? := funext h
  rw [e] <;> rfl
/-! ### the Bool -/
def eqO (a b : Option (Option Value)) : Bool := decide (a = b)
def recB (K : Fg) (p : Addr) (T : String) (g : Addr) : Bool := match PySem.W.recIn K p T with
  | some (.ref f :: _) => decide (f = g)
  | _ => false
def getB (K : Fg) (C : Addr) (m : Str) (gid : String) (p : Addr) : Bool := match PySem.W.findCls K (.ref C) (.type "type") m with
  | some (.get (.builtin g) (.ref q) .none (.ref D)) => decide (g = gid) && (decide (q = p) && decide (D = C))
  | _ => false
def creadB (K : Fg) (C : Addr) : Bool := PySem.W.readsIn K C (.type "type") && eqO (PySem.W.specialIn K (.ref C) "__getattribute__") (some (some (.builtin "type.__getattribute__")))
def clsB (K : Fg) (L : Lk) (c : Nat) (k : Cl) : Bool :=
  PySem.W.plainGet K (L.ct c) Str.empty && PySem.W.hasDictIn K (L.ct c) && PySem.W.plainOver K (L.ct c) && eqO (PySem.W.findIn K (.ref (L.ct c)) "__setattr__") (some (some (.builtin "object.__setattr__"))) && PySem.W.keepIn K (.ref (L.ct c)) &&
  k.flds.all (fun f => eqO (PySem.W.findIn K (.ref (L.ct c)) f) (some none)) &&
  k.meths.all (fun p => eqO (PySem.W.findIn K (.ref (L.ct c)) p.1) (some (some (.ref (L.fa p.2)))) && PySem.W.isFn K (.ref (L.fa p.2)) && PySem.W.keepIn K (.ref (L.fa p.2))) &&
  k.props.all (fun p => eqO (PySem.W.findIn K (.ref (L.ct c)) p.1) (some (some (.ref (He.ma K (L.ct c) p.1)))) && eqO (PySem.W.specialIn K (.ref (He.ma K (L.ct c) p.1)) "__get__") (some (some (.builtin "property.__get__"))) &&
    decide (PySem.W.takesIn K (.ref (He.ma K (L.ct c) p.1)) = some true) && recB K (He.ma K (L.ct c) p.1) "property" (L.fa p.2)) &&
  k.cms.all (fun p => creadB K (L.ct c) && getB K (L.ct c) p.1 "classmethod.__get__" (He.ma K (L.ct c) p.1) && recB K (He.ma K (L.ct c) p.1) "classmethod" (L.fa p.2) && PySem.W.fnIn K (L.fa p.2)) &&
  k.sts.all (fun p => creadB K (L.ct c) && getB K (L.ct c) p.1 "staticmethod.__get__" (He.ma K (L.ct c) p.1) && recB K (He.ma K (L.ct c) p.1) "staticmethod" (L.fa p.2) && PySem.W.keepIn K (.ref (L.fa p.2)))
theorem mem_lookup_some {β : Type} {l : List (Str × β)} {x : Str} {b : β} (h : l.lookup x = some b) : (x, b) ∈ l := by
  induction l with
  | nil => cases h
  | cons p r ih =>
    obtain ⟨y, c⟩ := p
    rw [List.lookup_cons] at h
    cases q : x == y with
    | true =>
      rw [q] at h
      cases h
      rw [beq_iff_eq.mp q]
      exact List.mem_cons_self
    | false =>
      rw [q] at h
      exact List.mem_cons_of_mem _ (ih h)
theorem eqO_ok {a b : Option (Option Value)} (h : eqO a b = true) : a = b := of_decide_eq_true h
theorem recB_ok {K : Fg} {p : Addr} {T : String} {g : Addr} (h : recB K p T g = true) : ∃ rest, PySem.W.recIn K p T = some (.ref g :: rest) := by
  unfold recB at h
  split at h
  · rename_i f r e
    rw [e, of_decide_eq_true h]
    exact ⟨r, rfl⟩
  · cases h
theorem getB_ok {K : Fg} {C : Addr} {m : Str} {gid : String} {p : Addr} (h : getB K C m gid p = true) : PySem.W.findCls K (.ref C) (.type "type") m = some (.get (.builtin gid) (.ref p) .none (.ref C)) := by
  unfold getB at h
  split at h
  · rename_i g q D e
    obtain ⟨a, b⟩ := Bool.and_eq_true_iff.mp h
    obtain ⟨b, c⟩ := Bool.and_eq_true_iff.mp b
    rw [e, of_decide_eq_true a, of_decide_eq_true b, of_decide_eq_true c]
  · cases h
theorem cread_ok {K : Fg} {C : Addr} (h : creadB K C = true) : ClX.CRead K C (.type "type") := by
  obtain ⟨a, b⟩ := Bool.and_eq_true_iff.mp h
  exact ⟨a, eqO_ok b⟩
theorem clsB_ok {K : Fg} {L : Lk} {c : Nat} {k : Cl} (h : clsB K L c k = true) : ClsF K L c k := by
  unfold clsB at h
  simp only [Bool.and_eq_true] at h
  obtain ⟨⟨⟨⟨⟨⟨⟨⟨⟨h1, h2⟩, h3⟩, h4⟩, h5⟩, h6⟩, h7⟩, h8⟩, h9⟩, h10⟩ := h
  refine ⟨⟨h1, h2, h3, eqO_ok h4⟩, h5, fun f hf => ?_, fun m i hm => ?_, fun f i hf => ?_, fun m i hm => ?_, fun m i hm => ?_⟩
  · exact eqO_ok (List.all_eq_true.mp h6 f (List.contains_iff_mem.mp hf))
  · have := List.all_eq_true.mp h7 _ (mem_lookup_some hm)
    simp only [Bool.and_eq_true] at this
    obtain ⟨⟨a, b⟩, d⟩ := this
    exact ⟨eqO_ok a, b, d⟩
  · have := List.all_eq_true.mp h8 _ (mem_lookup_some hf)
    simp only [Bool.and_eq_true] at this
    obtain ⟨⟨⟨a, b⟩, d⟩, e⟩ := this
    exact ⟨_, eqO_ok a, eqO_ok b, of_decide_eq_true d, recB_ok e⟩
  · have := List.all_eq_true.mp h9 _ (mem_lookup_some hm)
    simp only [Bool.and_eq_true] at this
    obtain ⟨⟨⟨a, b⟩, d⟩, e⟩ := this
    exact ⟨_, _, cread_ok a, getB_ok b, recB_ok d, e⟩
  · have := List.all_eq_true.mp h10 _ (mem_lookup_some hm)
    simp only [Bool.and_eq_true] at this
    obtain ⟨⟨⟨a, b⟩, d⟩, e⟩ := this
    exact ⟨_, cread_ok a, ⟨_, getB_ok b, recB_ok d⟩, e⟩
end Dv.Hk
end
section
set_option Elab.async false
set_option linter.all false
set_option maxRecDepth 100000
set_option maxHeartbeats 4000000
/-! The facts of a row, from what its head tells. -/
namespace Dv.Hk
open PySem PySem.Spec PyProof.Rows L2
def cdB (K : Fg) : Nat → D → Value → Bool
  | _, .non, .none => true
  | _, .bl a, .bool b => a == b
  | _, .int i, .int j _ => decide (i = j)
  | _, .str x, .str y _ => decide (x = y)
  | n + 1, .tup l, .ref a => (match K.lookup a with
    | some ⟨.type c, _, .seq its _, _⟩ => decide (c = "tuple") && decide (its.size ≤ sizeLine) && decide (l.length = its.toList.length) && (l.zip its.toList).all fun p => cdB K n p.1 p.2
    | _ => false)
  | _, _, _ => false
theorem cdB_ok {K : Fg} {ct : CT} : ∀ {n : Nat} {d : D} {u : Value}, cdB K n d u = true → ∃ v, RelV v u ∧ ∀ F, Rep K ct F d v := by
  intro n
  induction n with
  | zero =>
    intro d u h
    unfold cdB at h
    split at h
    · exact ⟨.non, rfl, fun _ => .non⟩
    · rename_i a b
      rw [beq_iff_eq.mp h]
      exact ⟨.bl b, rfl, fun _ => .bl⟩
    · rw [of_decide_eq_true h]
      exact ⟨.int _, ⟨_, rfl⟩, fun _ => .int⟩
    · rw [of_decide_eq_true h]
      exact ⟨.str _, ⟨_, rfl⟩, fun _ => .str⟩
    · rename_i n' l a he; cases he
    · cases h
  | succ n ih =>
    intro d u h
    unfold cdB at h
    split at h
    · exact ⟨.non, rfl, fun _ => .non⟩
    · rename_i a b
      rw [beq_iff_eq.mp h]
      exact ⟨.bl b, rfl, fun _ => .bl⟩
    · rw [of_decide_eq_true h]
      exact ⟨.int _, ⟨_, rfl⟩, fun _ => .int⟩
    · rw [of_decide_eq_true h]
      exact ⟨.str _, ⟨_, rfl⟩, fun _ => .str⟩
    · rename_i n' l a e
      cases e
      split at h
      · rename_i c od its nn sl lk
        simp only [Bool.and_eq_true] at h
        obtain ⟨⟨⟨h1, h2⟩, h3⟩, h4⟩ := h
        have key : ∀ (l : List D) (us : List Value), l.length = us.length → ((l.zip us).all fun p => cdB K n p.1 p.2) = true → ∃ vs, Vals vs us ∧ ∀ F, Reps K ct F l vs := by
          intro l
          induction l with
          | nil =>
            intro us hl _
            cases us with
            | nil => exact ⟨[], .nil, fun _ => .nil⟩
            | cons _ _ => cases hl
          | cons d l ihl =>
            intro us hl ha
            cases us with
            | nil => cases hl
            | cons u us =>
              rw [List.zip_cons_cons, List.all_cons] at ha
              obtain ⟨a1, a2⟩ := Bool.and_eq_true_iff.mp ha
              obtain ⟨v, r1, r2⟩ := ih a1
              obtain ⟨vs, q1, q2⟩ := ihl us (by simpa using hl) a2
              exact ⟨v :: vs, .cons r1 q1, fun F => .cons (r2 F) (q2 F)⟩
        obtain ⟨vs, q1, q2⟩ := key l its.toList (of_decide_eq_true h3) h4
        exact ⟨.ref a, rfl, fun F => .tup (.inr ⟨_, its, nn, lk, congrArg Value.type (of_decide_eq_true h1), rfl, of_decide_eq_true h2, q1⟩) (q2 F)⟩
      · cases h
    · cases h
def conB (K : Fg) (p : Str × D) : Bool := match PySem.W.nsIn K mainGlobals p.1 with
  | some (some u) => cdB K 4 p.2 u
  | _ => false
def tabB (K : Fg) (R : Rw) (p : Str × List (Str × D)) : Bool := decide (R.ts.lookup p.1 = some (p.2.map (·.1))) && eqO (PySem.W.nsIn K mainGlobals p.1) (some (some (.ref (He.ga K p.1)))) &&
  p.2.all fun q => match PySem.W.nsIn K (He.ga K p.1) q.1 with
    | some (some u) => cdB K 4 q.2 u
    | _ => false
def excB (K : Fg) (L : Lk) (p : Str × Nat) : Bool := eqO (PySem.W.nsIn K mainGlobals p.1) (some (some (.ref (L.ct p.2)))) && PySem.W.excIn K (L.ct p.2) He.veBase "ValueError.__new__" && PySem.W.keepIn K (.ref (L.ct p.2)) &&
  decide (PySem.W.subIn K (.ref (L.ct p.2)) (.type "BaseException") = some true) && decide (PySem.W.typeIn K (.ref (L.ct p.2)) = some (.type "type")) && !(p.1 == ("__debug__" : Str))
def oneB (K : Fg) (L : Lk) (G : Gm) (c : Nat) (k : Cl) : Bool :=
  clsB K L c k && PySem.W.makesIn K (L.ct c) && eqO (PySem.W.findIn K (.ref (L.ct c)) "__init__") (some (some (.ref (L.fa k.init)))) && PySem.W.isFn K (.ref (L.fa k.init)) &&
  eqO (PySem.W.findIn K (.ref (L.ct c)) "__class__") (some (some (.builtin "object.__class__"))) && decide (PySem.W.mroIn K (L.ct c) (.type "object") = some true) &&
  ["NoneType", "bool", "int", "str", "tuple", "list", "dict"].all (fun n => decide (PySem.W.kitOne K (.type n) (.ref (L.ct c)) = some false)) && isaNames.all (fun n => decide (PySem.W.kitOne K (.ref (L.ct c)) (.type n) = some false)) &&
  (List.range G.cls.length).all (fun c' => decide (PySem.W.kitOne K (.ref (L.ct c')) (.ref (L.ct c)) = some (c' == c))) &&
  PySem.W.selfFirst K (L.ct c) && ["add", "sub", "mul", "floordiv", "mod"].all (fun n => match PySem.W.findIn K (.ref (L.ct c)) (dunderR n) with
    | some none => true
    | some (some (.ref _)) => true
    | _ => false) && decide (PySem.W.subIn K (.ref (L.ct c)) (.type "int") = some false) &&
  ((k.meths.lookup ("__eq__" : Str)).isNone || eqO (PySem.W.findIn K (.ref (L.ct c)) "__ne__") (some (some (.builtin "object.__ne__")))) &&
  (match k.meths.lookup ("__getitem__" : Str) with
    | none => true
    | some f => PySem.W.fnIn K (L.fa f))
def retB (at_ : Option Str) (a : Str) (r : Expr) : Bool := match at_, r with
  | none, .Call (.Name x _) [] [] _ => decide (x = a)
  | some f, .Attribute (.Call (.Name x _) [] [] _) g _ => decide (x = a) && decide (f = g)
  | _, _ => false
def shapeB (hd : Hd) (a e : Str) (bg : List Stmt) : Bool := match bg with
  | [.Try [.Return (some r) _] [.ExceptHandler (some (.Name e' _)) none [.Return (some (.Constant k _ _)) _] _] [] [] _] => decide (e' = e) && retB hd.att a r && (match hd.hs with
    | [(_, d)] => cstB d k
    | _ => false)
  | _ => false
/-- a def that gets lambdas: which of R's, its parameter, the error -/
structure Hx where
  i : Nat
  d : Nat
  a : Str
  e : Str
def hdB (K : Fg) (R : Rw) (G : Gm) (p : Str × Nat) (z : Hx) : Bool := match R.ds[z.d]?, G.hds[p.2]? with
  | some d, some hd => decide (d.pl.at K = He.ga K p.1) && decide (d.name = p.1) && decide (d.qual = p.1) && decide (d.ps = [z.a]) && decide (d.N[0]? = some z.a) && eqO (PySem.W.nsIn K mainGlobals p.1) (some (some (.ref (He.ga K p.1)))) &&
    shapeB hd z.a z.e (defBody d.st) && visB (defScope d.st) z.a && decide ((defScope d.st).names.lookup z.e = some .globalImplicit) && eqO (PySem.W.nsIn K mainGlobals z.e) (some (some (.ref (He.ga K z.e)))) &&
    !(z.e == ("__debug__" : Str)) && !(p.1 == ("__debug__" : Str)) && !(z.a == ("__debug__" : Str)) && !(z.a == ("__classdict__" : Str)) && (z.a != ("super" : Str)) &&
    (match hd.hs with
      | [(cs, _)] => cs.all fun c => decide (PySem.W.exmOne K (.ref ((R.lk K).ct c)) (.ref (He.ga K z.e)) = some true)
      | _ => false)
  | _, _ => false
def lamB (K : Fg) (R : Rw) : Bool := R.tf.all fun p => decide (p.2 = none) && R.tf.all fun q => decide (p = q) || !decide ((He.cT K p).2 = (He.cT K q).2)
/-- all of it -/
def exB (G : Gm) (c : Cc) (R : Rw) (hx : List Hx) (K : Fg) : Bool :=
  c.fns.all (fun p => eqO (PySem.W.nsIn K mainGlobals p.1) (some (some (.ref ((R.lk K).fa p.2)))) && PySem.W.keepIn K (.ref ((R.lk K).fa p.2))) &&
  c.cls.all (fun p => eqO (PySem.W.nsIn K mainGlobals p.1) (some (some (.ref ((R.lk K).ct p.2)))) && PySem.W.keepIn K (.ref ((R.lk K).ct p.2))) &&
  c.blt.all (fun x => eqO (PySem.W.nsIn K mainGlobals x) (some none)) &&
  (List.range G.cls.length).all (fun i => match G.cls[i]? with
    | some k => oneB K (R.lk K) G i k
    | none => true) &&
  G.consts.all (conB K) && G.tabs.all (tabB K R) && c.exc.all (excB K (R.lk K)) &&
  eqO (PySem.W.specialIn K (.builtin "object.__class__") "__get__") (some (some (.builtin "getset_descriptor.__get__"))) && decide (PySem.W.takesIn K (.builtin "object.__class__") = some true) &&
  c.hds.all (fun p => hx.any fun z => decide (z.i = p.2) && hdB K R G p z) && lamB K R
end Dv.Hk
end
section
set_option Elab.async false
set_option linter.all false
set_option maxRecDepth 100000
set_option maxHeartbeats 4000000
namespace Dv.Hk
open PySem PySem.Spec PyProof.Rows L2
theorem dicW_at {K : Fg} {a : Addr} {ks : List (Option (Str × Int))} (h : He.dicW K a = some ks) : ∃ oc od es ep sl, K.lookup a = some ⟨oc, od, .dict es ep, sl⟩ ∧ es.toList.map He.keyOf = ks := by
  unfold He.dicW at h
  split at h
  · rename_i c es ep sl lk
    split at h
    · exact ⟨_, _, es, ep, sl, lk, Option.some.inj h⟩
    · cases h
  · cases h
theorem nsIn_none {K : Fg} {a : Addr} {P : Params} {ks : List Str} {z : Str} (h : He.dicW K a = some (He.keysIn P ks)) (hz : z ∉ ks) : PySem.W.nsIn K a z = some none := by
  obtain ⟨oc, od, es, ep, sl, lk, e⟩ := dicW_at h
  have key : ∀ (l : List DictEntry) (ks : List Str), l.map He.keyOf = He.keysIn P ks → ∀ en ∈ l, ∃ k t, en.key = .str k t ∧ k ∈ ks := by
    intro l
    induction l with
    | nil => intro ks _ en hen; cases hen
    | cons d l ih =>
      intro ks e en hen
      cases ks with
      | nil => cases e
      | cons k ks =>
        have e : He.keyOf d :: l.map He.keyOf = some (k, PyData.keyHash P k) :: He.keysIn P ks := e
        injection e with e1 e2
        rcases List.mem_cons.mp hen with rfl | hen
        · unfold He.keyOf at e1
          split at e1
          · rename_i x t q
            have := congrArg Prod.fst (Option.some.inj e1)
            exact ⟨x, t, q, by rw [show x = k from this]; exact List.mem_cons_self⟩
          · cases e1
        · obtain ⟨k', t, q, m⟩ := ih ks e2 en hen
          exact ⟨k', t, q, List.mem_cons_of_mem _ m⟩
  have all := key es.toList ks e
  unfold PySem.W.nsIn
  rw [lk]
  dsimp only
  have f1 : es.toList.find? (·.key.isStr z) = none := List.find?_eq_none.mpr fun en hen => by
    obtain ⟨k, t, q, m⟩ := all en hen
    rw [q]
    intro hk
    have hk : (k == z) = true := hk
    rw [beq_iff_eq.mp hk] at m
    exact hz m
  have f2 : es.toList.any (·.refKey) = false := List.any_eq_false.mpr fun en hen => by
    obtain ⟨k, t, q, m⟩ := all en hen
    unfold DictEntry.refKey
    rw [q]
    intro hk
    cases hk
  rw [f1, f2]
  rfl
theorem lookup_none {β : Type} {l : List (Str × β)} {x : Str} (h : l.lookup x = none) : x ∉ l.map (·.1) := by
  induction l with
  | nil => exact fun z => by cases z
  | cons p r ih =>
    obtain ⟨y, b⟩ := p
    rw [List.lookup_cons] at h
    cases q : x == y with
    | true => rw [q] at h; cases h
    | false =>
      rw [q] at h
      intro z
      rcases List.mem_cons.mp z with e | z
      · have e : x = y := e
        subst e
        simp at q
      · exact ih h z
theorem retB_ok {at_ : Option Str} {a : Str} {r : Expr} (h : retB at_ a r = true) : ∃ p1 p2 p3, r = retOf a at_ p1 p2 p3 := by
  unfold retB at h
  split at h
  · rename_i x p1 p2
    rw [of_decide_eq_true h]
    exact ⟨p1, p2, p2, rfl⟩
  · rename_i x p1 p2 g p3
    obtain ⟨h1, h2⟩ := Bool.and_eq_true_iff.mp h
    rw [of_decide_eq_true h1, of_decide_eq_true h2]
    exact ⟨p1, p2, p3, rfl⟩
  · cases h
theorem cst_v {d : D} {k : Const} (h : cstB d k = true) : ∃ v : V, (∀ (Y : Cx) (j : Nat) (pos : Pos), PE Y (.Constant k j pos) (tC v)) ∧ ∀ (K : Fg) (ct : CT) (F : Hp), Rep K ct F d v := by
  cases d <;> cases k <;> first | (cases h; done) | skip
  · exact ⟨.non, fun Y j pos => pe_non, fun _ _ _ => .non⟩
  · obtain rfl := of_decide_eq_true h; exact ⟨.bl _, fun Y j pos => pe_bl, fun _ _ _ => .bl⟩
  · obtain rfl := of_decide_eq_true h; exact ⟨.int _, fun Y j pos => pe_int, fun _ _ _ => .int⟩
  · obtain rfl := of_decide_eq_true h; exact ⟨.str _, fun Y j pos => pe_str, fun _ _ _ => .str⟩
section
variable [Tt] {P : Program} {w : World} {K : Fg} {mg : Str → Option Value} {base h : Heap} {G : Gm} {c : Cc} {R : Rw} {hx : List Hx}
theorem hd_ok (Y : Says R (exB G c R hx) w h K) (X : K.In h) (hns : h.Ns mainGlobals mg) {x : Str} {i : Nat} {z : Hx} (hsc : ∀ d ∈ R.ds, FnScope d.N d.ps (defScope d.st)) (hbn : ∀ d ∈ R.ds, ∀ fd, FunD K d.name d.qual (defArgs d.st) (defBody d.st) (defScope d.st) [] [] (d.pl.at K) fd → Binds K fd d.ps [])
    (q : hdB K R G (x, i) z = true) : ∃ hd, G.hds[i]? = some hd ∧ HdF K mg (R.lk K) x hd := by
  unfold hdB at q
  split at q
  · rename_i d hd e1 e2
    refine ⟨hd, e2, ?_⟩
    simp only [Bool.and_eq_true] at q
    obtain ⟨⟨⟨⟨⟨⟨⟨⟨⟨⟨⟨⟨⟨⟨⟨a1, a2⟩, a3⟩, a4⟩, a5⟩, a6⟩, a7⟩, a8⟩, a9⟩, a10⟩, a11⟩, a12⟩, a13⟩, a14⟩, a15⟩, a16⟩ := q
    have hmem := List.mem_of_getElem? e1
    obtain ⟨fd, F⟩ := Y.def_ _ _ e1
    have S := hsc d hmem
    have b := hbn d hmem fd F
    obtain ⟨oc, od, dV, kV, doc, pm, an, cdv, ct, osl, ef, lk, hcd, _, _⟩ := F.ex
    rw [of_decide_eq_true a4] at S b
    rw [of_decide_eq_true a1] at lk
    have kp := F.kp
    rw [of_decide_eq_true a1] at kp
    have n1 := of_decide_eq_true a2
    have n2 := of_decide_eq_true a3
    rw [n1, n2] at ef
    rw [n2] at hcd
    subst ef
    unfold shapeB at a7
    split at a7
    · rename_i r p3 e' p4 k j p5 p6 p7 p8 eb
      simp only [Bool.and_eq_true] at a7
      obtain ⟨⟨b1, b2⟩, b3⟩ := a7
      obtain ⟨p1, p2, p2', rfl⟩ := retB_ok b2
      cases of_decide_eq_true b1
      split at b3
      · rename_i cs dd eh
        obtain ⟨v, v1, v2⟩ := cst_v b3
        rw [eh] at a16
        dsimp only at a16
        refine ⟨_, _, _, _, _, _, _, _, _, _, _, _, _, d.N, z.a, z.e, _, v, _, p1, p2, p2', p3, p4, p6, p7, p8, _, eb, PySem.W.mg_of X hns (eqO_ok a6), kp, lk, hcd, b, S, of_decide_eq_true a5, vis_of a8, of_decide_eq_true a9, PySem.W.mg_of X hns (eqO_ok a10), by simpa using a11, by simpa using a12, by simpa using a13, by simpa using a14, by simpa using a15, fun Y => v1 Y _ _, fun f => ?_, cs, dd, eh, fun F => v2 _ _ F, fun cc hcc => of_decide_eq_true (List.all_eq_true.mp a16 cc (List.contains_iff_mem.mp hcc))⟩
        have l0 := (List.getElem?_eq_some_iff.mp (of_decide_eq_true a5)).1
        unfold L2.start
        rfl
      · cases b3
    · cases a7
  · cases q
theorem facts_of (Y : Says R (exB G c R hx) w h K) (X : K.In h) (hns : h.Ns mainGlobals mg) (hsc : ∀ d ∈ R.ds, FnScope d.N d.ps (defScope d.st)) (hbn : ∀ d ∈ R.ds, ∀ fd, FunD K d.name d.qual (defArgs d.st) (defBody d.st) (defScope d.st) [] [] (d.pl.at K) fd → Binds K fd d.ps []) : Facts P w K mg base (R.lk K) G c := by
  have E := Y.ex
  unfold exB at E
  simp only [Bool.and_eq_true] at E
  obtain ⟨⟨⟨⟨⟨⟨⟨⟨⟨⟨e1, e2⟩, e3⟩, e4⟩, e5⟩, e6⟩, e7⟩, e8⟩, e9⟩, e10⟩, e11⟩ := E
  have one : ∀ i k, G.cls[i]? = some k → oneB K (R.lk K) G i k = true := fun i k hk => by
    have := List.all_eq_true.mp e4 i (List.mem_range.mpr (List.getElem?_eq_some_iff.mp hk).1)
    rw [hk] at this
    exact this
  have cf : ∀ i k, G.cls[i]? = some k → ClsF K (R.lk K) i k := fun i k hk => by
    have := one i k hk
    unfold oneB at this
    simp only [Bool.and_eq_true] at this
    exact clsB_ok this.1.1.1.1.1.1.1.1.1.1.1.1.1
  refine { fns := fun x f q => ?_, cls := fun x k q => ?_, blt := fun x q => ?_, cf := cf, con := fun x d q => ?_, tab := fun x l q => ?_, isa := ?_, hds := fun x i q => ?_, own := ?_, exc := ?_ }
  · have := List.all_eq_true.mp e1 _ (mem_lookup_some q)
    obtain ⟨a, b⟩ := Bool.and_eq_true_iff.mp this
    exact ⟨PySem.W.mg_of X hns (eqO_ok a), b⟩
  · have := List.all_eq_true.mp e2 _ (mem_lookup_some q)
    obtain ⟨a, b⟩ := Bool.and_eq_true_iff.mp this
    exact ⟨PySem.W.mg_of X hns (eqO_ok a), b⟩
  · exact PySem.W.mg_none_of X hns (eqO_ok (List.all_eq_true.mp e3 x (List.contains_iff_mem.mp q)))
  · have := List.all_eq_true.mp e5 _ (mem_lookup_some q)
    unfold conB at this
    split at this
    · rename_i u hu
      obtain ⟨v, r1, r2⟩ := cdB_ok this
      exact ⟨u, v, PySem.W.mg_of X hns hu, r1, r2⟩
    · cases this
  · have := List.all_eq_true.mp e6 _ (mem_lookup_some q)
    unfold tabB at this
    simp only [Bool.and_eq_true] at this
    obtain ⟨⟨a1, a2⟩, a3⟩ := this
    have hd := Y.tab _ (mem_lookup_some (of_decide_eq_true a1))
    dsimp only at hd a2 a3
    obtain ⟨es, n, kd⟩ := He.dicW_ok hd
    refine ⟨_, es, n, PySem.W.mg_of X hns (eqO_ok a2), kd, fun z => ⟨fun dz hz => ?_, fun hz => nsIn_none hd (lookup_none hz)⟩⟩
    have := List.all_eq_true.mp a3 _ (mem_lookup_some hz)
    dsimp only at this
    split at this
    · rename_i u hu
      obtain ⟨v, r1, r2⟩ := cdB_ok this
      exact ⟨u, v, hu, r1, r2⟩
    · cases this
  · have get : ∀ i k, G.cls[i]? = some k → _ := fun i k hk => (by
      have := one i k hk
      unfold oneB at this
      simp only [Bool.and_eq_true] at this
      exact this)
    refine { ha := fun i k hk => ?_, hn := eqO_ok e8, ht := of_decide_eq_true e9, bo := fun n hn i k hk => ?_, ob := fun n hn i k hk => ?_, oo := fun i k i' k' hk hk' => ?_ }
    · have g := get i k hk
      exact ⟨(cf i k hk).cls, eqO_ok g.1.1.1.1.1.1.1.1.1.2, of_decide_eq_true g.1.1.1.1.1.1.1.1.2⟩
    · exact of_decide_eq_true (List.all_eq_true.mp (get i k hk).1.1.1.1.1.1.1.2 n (List.contains_iff_mem.mp hn))
    · exact of_decide_eq_true (List.all_eq_true.mp (get i k hk).1.1.1.1.1.1.2 n (List.contains_iff_mem.mp hn))
    · exact of_decide_eq_true (List.all_eq_true.mp (get i k hk).1.1.1.1.1.2 i' (List.mem_range.mpr (List.getElem?_eq_some_iff.mp hk').1))
  · have := List.all_eq_true.mp e10 _ (mem_lookup_some q)
    obtain ⟨z, hz, hb⟩ := List.any_eq_true.mp this
    exact hd_ok Y X hns hsc hbn (Bool.and_eq_true_iff.mp hb).2
  · have of : OwnF K (R.lk K) G := by
      have get : ∀ i k, G.cls[i]? = some k → _ := fun i k hk => (by
        have := one i k hk
        unfold oneB at this
        simp only [Bool.and_eq_true] at this
        exact this)
      refine ⟨fun i k hk => (get i k hk).1.1.1.1.2, fun o i k hk => ?_, fun i k hk => of_decide_eq_true (get i k hk).1.1.2, fun i f hl => ?_, fun i f hl => ?_⟩
      · have := List.all_eq_true.mp (get i k hk).1.1.1.2 (pyOp o).info.2 (by cases o <;> decide)
        split at this
        · rename_i hq; exact ⟨none, hq, .inl rfl⟩
        · rename_i g hq; exact ⟨_, hq, .inr ⟨g, rfl⟩⟩
        · cases this
      · obtain ⟨k, hk⟩ := lookC_k hl
        have hl' : k.meths.lookup ("__eq__" : Str) = some f := by unfold lookC at hl; rw [hk] at hl; exact hl
        have g := get i k hk
        have g2 := g.1.2
        rw [hl'] at g2
        exact ⟨eqO_ok (by simpa using g2), of_decide_eq_true g.1.1.1.1.1.1.1.1.2⟩
      · obtain ⟨k, hk⟩ := lookC_k hl
        have hl' : k.meths.lookup ("__getitem__" : Str) = some f := by unfold lookC at hl; rw [hk] at hl; exact hl
        have g2 := (get i k hk).2
        rw [hl'] at g2
        exact g2
    intro cl mk k X' E h1 h2 h3 h4 h5 hc calm hr tk g
    exact own_all g (by rw [h3]; exact cf) (by rw [h3]; exact of)
  · intro X' h1 h2 h3 h4 h5 x kk hg q m j p p2 pos
    have := List.all_eq_true.mp e7 _ (mem_lookup_some q)
    unfold excB at this
    simp only [Bool.and_eq_true] at this
    obtain ⟨⟨⟨⟨⟨a1, a2⟩, a3⟩, a4⟩, a5⟩, a6⟩ := this
    exact pmk_own PySem.F.excBase_ValueError (by rw [h3]; exact a2) (by rw [h4]; exact PySem.W.mg_of X hns (eqO_ok a1)) (by rw [h3]; exact a3) (raises_own (by rw [h3]; exact of_decide_eq_true a4) (by rw [h3]; exact of_decide_eq_true a5)) hg (by simpa using a6)
end
end Dv.Hk
end
section
set_option Elab.async false
set_option linter.all false
set_option maxRecDepth 100000
set_option maxHeartbeats 4000000
/-! The law at the head's heap. -/
namespace Dv.Hk
open PySem PySem.Spec PyProof.Rows L2
/-- a def's literal beside its text -/
structure Chk (c : Cc) (dd : Dd) (d : Df) : Prop where
  ok : okS (ccOf c dd.N (defScope dd.st) dd.lm) d.body true (defBody dd.st) = true
  np : dd.ps.length = d.np
  ns : dd.N.length = d.ns
abbrev ttOf (K : Fg) (R : Rw) : Tt := ⟨R.tf.map fun p => ((He.cT K p).2, (envOfC p.1 default 0 0 .none).qual ++ "<lambda>")⟩
theorem law_at {l : PySem.W.OpenLaw} {w : World} {K : Fg} {mg : Str → Option Value} {h : Heap} {G : Gm} {c : Cc} {R : Rw} {hx : List Hx} {fa : Addr} {n wf li : Nat} {dl : Dd} {d : Df} (Y : Says R (exB G c R hx) w h K) (X : K.In h) (hns : h.Ns mainGlobals mg) (hmg : mg "law" = some (.ref fa))
    (hsc : ∀ d ∈ R.ds, FnScope d.N d.ps (defScope d.st)) (hbn : ∀ d ∈ R.ds, ∀ fd, FunD K d.name d.qual (defArgs d.st) (defBody d.st) (defScope d.st) [] [] (d.pl.at K) fd → Binds K fd d.ps [])
    (chk : ∀ (f : Nat) (d : Df), G.defs[f]? = some d → ∃ dd, R.ds[f]? = some dd ∧ Chk c dd d) (lmo : ∀ d ∈ R.ds, d.lm = true → ∃ x, d.pl = .fn x ∧ d.qual = x ∧ (x, none) ∈ R.tf)
    (hl : G.defs[li]? = some d) (hdl : R.ds[li]? = some dl) (pl : dl.pl = .fn "law") (hps : dl.ps = (["script"] : List Str)) (hfn : c.fns.lookup ("law" : Str) = some li)
    (hbd : ∀ fd, FunD K dl.name dl.qual (defArgs dl.st) (defBody dl.st) (defScope dl.st) [] [] (dl.pl.at K) fd → ∀ (s : Shared) (u : Value), BindsTo s fd ⟨[u], []⟩ [(("script" : Str), u)])
    (law : ∀ ns : List Int, ns.length ≤ 63 → ∃ kd, evS G (evC G wf n).1 (evC G wf n).2 wf d.body (Dv.envOf d.np d.ns [.scr ns]) = .rt (.bl true) kd) :
    LamX.LawAtS l w K (L2.CX l.prog w) (4 * n + 4) 63 "script" mg fa h := by
  letI : Tt := ttOf K R
  obtain ⟨fd, F⟩ := Y.def_ _ _ hdl
  have E := Y.ex
  unfold exB at E
  simp only [Bool.and_eq_true] at E
  have e1 := E.1.1.1.1.1.1.1.1.1.1
  have e4 := E.1.1.1.1.1.1.1.2
  have e11 := E.2
  have hfa : fa = (R.lk K).fa li := by
    have := List.all_eq_true.mp e1 _ (mem_lookup_some hfn)
    have := PySem.W.mg_of X hns (eqO_ok (Bool.and_eq_true_iff.mp this).1)
    rw [hmg] at this
    cases this
    rfl
  have at_ : ∀ {i : Nat} {dd : Dd}, R.ds[i]? = some dd → (R.lk K).fa i = dd.pl.at K := fun {i dd} q => by
    show R.fa K i = _
    unfold Rw.fa
    rw [q]
  have fun_ : ∀ {i : Nat} {dd : Dd}, R.ds[i]? = some dd → ∃ fd, Fun K dd.name dd.qual dd.st ((R.lk K).fa i) fd ∧ Binds K fd dd.ps [] ∧ FunD K dd.name dd.qual (defArgs dd.st) (defBody dd.st) (defScope dd.st) [] [] (dd.pl.at K) fd := fun {i dd} q => by
    obtain ⟨fd, F⟩ := Y.def_ _ _ q
    refine ⟨fd, ?_, hbn dd (List.mem_of_getElem? q) fd F, F⟩
    rw [at_ q]
    exact He5.fun_of F
  have lam : ∀ {base : Heap} {dd : Dd} {fd : FuncData}, (∀ p ∈ R.tf.map (He.cT K), LamX.TabB base mg p.1 p.2) → dd ∈ R.ds → FunD K dd.name dd.qual (defArgs dd.st) (defBody dd.st) (defScope dd.st) [] [] (dd.pl.at K) fd → dd.lm = true → LamF base mg dd.qual fd.code := fun {base dd fd} hT hm F hlm => by
    obtain ⟨x, q1, q2, q3⟩ := lmo dd hm hlm
    obtain ⟨oc, od, dV, kV, doc, pm, an, cdv, ct, osl, ef, lk, hcd, _, _⟩ := F.ex
    obtain ⟨c0, ec⟩ := He.codeIn_ref hcd
    have eco : fd.code = .ref c0 := by rw [ef]; exact ec
    have e0 : He.codeOf K (x, none) = c0 := He.codeOf_eq (p := (x, none)) (by rw [q1] at lk; exact lk) eco
    have e5 : (He.cT K (x, none)).1 = c0 := e0
    refine ⟨c0, (He.cT K (x, none)).2, eco, ?_, ?_, fun p hp ep => ?_⟩
    · have := hT _ (List.mem_map.mpr ⟨(x, none), q3, rfl⟩)
      rw [e5] at this
      exact this
    · rw [q2]
      exact List.mem_map.mpr ⟨(x, none), q3, rfl⟩
    · obtain ⟨z, hz, rfl⟩ := List.mem_map.mp hp
      have := List.all_eq_true.mp e11 z hz
      obtain ⟨_, b⟩ := Bool.and_eq_true_iff.mp this
      have := List.all_eq_true.mp b (x, none) q3
      rcases Bool.or_eq_true_iff.mp this with q | q
      · have ez := of_decide_eq_true q
        subst ez
        rw [q2]
        rfl
      · exact absurd ep (by simpa using q)
  refine ⟨fd, R.tf.map (He.cT K), spLaw K 63, fun p hp => ?_, fun p hp => ?_, fun p hp => ?_, hbd fd F, fun H a ns hlen _ hT hS => ⟨a, ns, rfl, hS, hlen, fun p hp => ?_, fun _ => rfl⟩, fun base hKb hnb hTB => ?_⟩
  · obtain ⟨z, hz, rfl⟩ := List.mem_map.mp hp
    exact Y.empty z hz
  · obtain ⟨z, hz, rfl⟩ := List.mem_map.mp hp
    exact Y.out z hz
  · obtain ⟨z, hz, rfl⟩ := List.mem_map.mp hp
    exact PySem.W.codeHd_of_K X (Y.hd z hz)
  · obtain ⟨z, hz, rfl⟩ := List.mem_map.mp hp
    exact LamX.TabS.nil (hT _ (List.mem_map.mpr ⟨z, hz, rfl⟩))
  · have T : Facts l.prog w K mg base (R.lk K) G c := facts_of Y X hns hsc hbn
    have hd : ∀ f d, G.defs[f]? = some d → DefOk l.prog w K mg base (R.lk K) G wf f d := fun f d q => by
      obtain ⟨dd, q1, ck⟩ := chk f d q
      obtain ⟨fd, F, b, FD⟩ := fun_ q1
      exact defOk_by T dd.lm (lam hTB (List.mem_of_getElem? q1) FD) F (hsc dd (List.mem_of_getElem? q1)) b ck.np ck.ns ck.ok
    have hm : ∀ i kk, G.cls[i]? = some kk → Mk K ((R.lk K).ct i) ((R.lk K).fa kk.init) := fun i kk q => by
      have := List.all_eq_true.mp e4 i (List.mem_range.mpr (List.getElem?_eq_some_iff.mp q).1)
      rw [q] at this
      have this : oneB K (R.lk K) G i kk = true := this
      unfold oneB at this
      simp only [Bool.and_eq_true] at this
      have cl := clsB_ok this.1.1.1.1.1.1.1.1.1.1.1.1.1
      exact ⟨this.1.1.1.1.1.1.1.1.1.1.1.1.2, eqO_ok this.1.1.1.1.1.1.1.1.1.1.1.2, this.1.1.1.1.1.1.1.1.1.1.2, cl.kp⟩
    obtain ⟨dd, q1, ck⟩ := chk li d hl
    rw [hdl] at q1
    cases q1
    have S := hsc dl (List.mem_of_getElem? hdl)
    rw [hps] at S
    have hnp : d.np = 1 := by rw [← ck.np, hps]; rfl
    have FF := He5.fun_of F
    rw [← at_ hdl, ← hfa] at FF
    exact law_fn T hd hm dl.lm (lam hTB (List.mem_of_getElem? hdl) F) FF S hnp ck.ns ck.ok law
end Dv.Hk
namespace Dv
open PySem PySem.Spec PyProof.Rows L2
def BindP (d : Hk.Dd) : Prop := ∀ (K : Hk.Fg) (fd : FuncData), FunD K d.name d.qual (defArgs d.st) (defBody d.st) (defScope d.st) [] [] (d.pl.at K) fd → Binds K fd d.ps []
def scB (d : Hk.Dd) : Bool := decide ((defScope d.st).kind = .function) && !(defScope d.st).isCoroutine && !(defScope d.st).isGenerator && decide d.N.Nodup && decide (d.N.take d.ps.length = d.ps) &&
  d.ps.all (fun x => decide ((defScope d.st).names.lookup x = some .local) || decide ((defScope d.st).names.lookup x = some .cell)) && (defScope d.st).names.all (fun y => !decide (y.2 = .free))
theorem sc_all {l : List Hk.Dd} (h : l.all scB = true) : ∀ d ∈ l, FnScope d.N d.ps (defScope d.st) := fun d hd => by
  have := List.all_eq_true.mp h d hd
  unfold scB at this
  simp only [Bool.and_eq_true] at this
  obtain ⟨⟨⟨⟨⟨⟨h1, h2⟩, h3⟩, h4⟩, h5⟩, h6⟩, h7⟩ := this
  refine ⟨of_decide_eq_true h1, by simpa using h2, by simpa using h3, of_decide_eq_true h4, of_decide_eq_true h5, fun x hx => ?_, fun y hy => ?_⟩
  · have := List.all_eq_true.mp h6 x hx
    rcases Bool.or_eq_true_iff.mp this with q | q
    · exact .inl (of_decide_eq_true q)
    · exact .inr (of_decide_eq_true q)
  · have := List.all_eq_true.mp h7 y hy
    simpa using this
end Dv
end
section
set_option Elab.async false
set_option linter.all false
set_option maxRecDepth 100000
open PySem PySem.Spec PyProof.Rows L2 Dv
namespace K01
section
local instance : Tt := ⟨[]⟩
def topS (i : Nat) : Stmt := PySem.Challenge.pw_keptmeanings_k01_whole_forms.main.body.getD i (.Pass ⟨0, 0, 0, 0⟩)
def cc : Cc := { N := [], sc := ⟨.function, [], false, false, []⟩, fns := [("is_whole", 0), ("is_below", 1), ("has_shape", 2), ("forms_in", 3), ("numbers_after", 4), ("check_limit", 27), ("tree_of", 28), ("_law_number", 29), ("_law_tree", 30), ("_law_any_tree", 31), ("_law_in", 32), ("_law_due", 33), ("_law_one_right", 34), ("_law_numbers_right", 35), ("_law_pair_right", 36), ("law", 37)], cls := [("Form", 0)], blt := ["len", "int", "sum", "tuple", "list", "sorted", "any", "all", "max", "min", "isinstance", "range", "zip", "set", "str", "bool", "dict"], df := true, exc := [("MeaningError", 1), ("BadForm", 2), ("BadNumber", 3)], hds := [("_law_heard", 0)] }
/-! 0: is_whole -/
def d0 : Df := ⟨1, 1, (.seq (.ret (.and (.isi (.slot 0) (.ty "int")) (.not (.isi (.slot 0) (.ty "bool"))))) .done)⟩
def n0 : List Str := ["value"]
theorem ok0 : okS (ccOf cc n0 (defScope (topS 5)) false) d0.body true (defBody (topS 5)) = true := by decide +kernel
/-! 1: is_below -/
def d1 : Df := ⟨2, 2, (.seq (.ret (.and (.call 0 (.cons (.slot 0) .nil)) (.cmp2 .le .lt (.cst (.int 0)) (.slot 0) (.slot 1)))) .done)⟩
def n1 : List Str := ["value", "limit"]
theorem ok1 : okS (ccOf cc n1 (defScope (topS 6)) false) d1.body true (defBody (topS 6)) = true := by decide +kernel
/-! 2: has_shape -/
def d2 : Df := ⟨1, 2, (.seq (.ite (.or (.not (.isi (.slot 0) (.ty "tuple"))) (.or (.cmp .eq (.blt .len (.cons (.slot 0) .nil)) (.cst (.int 0))) (.not (.isi (.ix (.slot 0) (.cst (.int 0))) (.ty "str"))))) (.seq (.ret (.cst (.bl false))) .done) .done) (.seq (.asg 1 (.ix (.slot 0) (.cst (.int 0)))) (.seq (.ite (.or (.ing "SHAPES" true (.slot 1)) (.cmp .ne (.blt .len (.cons (.slot 0) .nil)) (.ix (.ixg "SHAPES" (.slot 1)) (.cst (.int 0))))) (.seq (.ret (.cst (.bl false))) .done) .done) (.seq (.ret (.or (.ing "LIMITS" true (.slot 1)) (.call 1 (.cons (.ix (.slot 0) (.cst (.int 1))) (.cons (.ixg "LIMITS" (.slot 1)) .nil))))) .done))))⟩
def n2 : List Str := ["tree", "word"]
theorem ok2 : okS (ccOf cc n2 (defScope (topS 11)) false) d2.body true (defBody (topS 11)) = true := by decide +kernel
/-! 3: forms_in -/
def d3 : Df := ⟨1, 4, (.seq (.asg 1 (.lst (.cons (.slot 0) .nil))) (.seq (.asg 2 (.cst (.int 0))) (.seq (.whl (.cmp .lt (.slot 2) (.blt .len (.cons (.slot 1) .nil))) (.seq (.asg 3 (.ix (.slot 1) (.slot 2))) (.seq (.ite (.or (.cmp .gt (.blt .len (.cons (.slot 1) .nil)) (.gc "MOST_FORMS")) (.not (.call 2 (.cons (.slot 3) .nil)))) (.seq (.ret (.cst .non)) .done) .done) (.seq (.ext 1 (.slL (.slot 3) (.ix (.ixg "SHAPES" (.ix (.slot 3) (.cst (.int 0)))) (.cst (.int 1))))) (.seq (.aug 2 .add (.cst (.int 1))) .done))))) (.seq (.seq (.frz [1]) (.ret (.slot 1))) .done))))⟩
def n3 : List Str := ["tree", "standing", "at", "one"]
theorem ok3 : okS (ccOf cc n3 (defScope (topS 12)) false) d3.body true (defBody (topS 12)) = true := by decide +kernel
/-! 4: numbers_after -/
def d4 : Df := ⟨2, 3, (.seq (.ret (.blt .tuple (.cons (.sset [2] [2] (.call 3 (.cons (.slot 0) .nil)) (.cmp .eq (.ix (.slot 2) (.cst (.int 0))) (.slot 1)) (.ix (.slot 2) (.cst (.int 1)))) .nil))) .done)⟩
def n4 : List Str := ["tree", "word", "one"]
theorem ok4 : okS (ccOf cc n4 (defScope (topS 13)) false) d4.body true (defBody (topS 13)) = true := by decide +kernel
/-! 5: Form.__init__ -/
def d5 : Df := ⟨2, 2, (.seq (.ite (.cmp .is (.call 3 (.cons (.slot 1) .nil)) (.cst .non)) (.seq (.raise 2) .done) .done) (.seq (.setf "tree" (.slot 1)) .done))⟩
def n5 : List Str := ["self", "tree"]
theorem ok5 : okS (ccOf cc n5 (defScope (inClass (topS 15) 0)) false) d5.body true (defBody (inClass (topS 15) 0)) = true := by decide +kernel
/-! 6: Form.number -/
def d6 : Df := ⟨2, 2, (.seq (.ex (.call 27 (.cons (.cst (.str "number")) (.cons (.slot 1) .nil)))) (.seq (.ret (.mkv 0 (.cons (.tup (.cons (.cst (.str "number")) (.cons (.slot 1) .nil))) .nil))) .done))⟩
def n6 : List Str := ["cls", "n"]
theorem ok6 : okS (ccOf cc n6 (defScope (inClass (topS 15) 1)) false) d6.body true (defBody (inClass (topS 15) 1)) = true := by decide +kernel
/-! 7: Form.column -/
def d7 : Df := ⟨2, 2, (.seq (.ex (.call 27 (.cons (.cst (.str "column")) (.cons (.slot 1) .nil)))) (.seq (.ret (.mkv 0 (.cons (.tup (.cons (.cst (.str "column")) (.cons (.slot 1) .nil))) .nil))) .done))⟩
def n7 : List Str := ["cls", "c"]
theorem ok7 : okS (ccOf cc n7 (defScope (inClass (topS 15) 2)) false) d7.body true (defBody (inClass (topS 15) 2)) = true := by decide +kernel
/-! 8: Form.kept -/
def d8 : Df := ⟨2, 2, (.seq (.ex (.call 27 (.cons (.cst (.str "kept")) (.cons (.slot 1) .nil)))) (.seq (.ret (.mkv 0 (.cons (.tup (.cons (.cst (.str "kept")) (.cons (.slot 1) .nil))) .nil))) .done))⟩
def n8 : List Str := ["cls", "t"]
theorem ok8 : okS (ccOf cc n8 (defScope (inClass (topS 15) 3)) false) d8.body true (defBody (inClass (topS 15) 3)) = true := by decide +kernel
/-! 9: Form.given -/
def d9 : Df := ⟨0, 0, (.seq (.ret (.make 0 (.cons (.tup (.cons (.cst (.str "given")) .nil)) .nil))) .done)⟩
def n9 : List Str := []
theorem ok9 : okS (ccOf cc n9 (defScope (inClass (topS 15) 4)) false) d9.body true (defBody (inClass (topS 15) 4)) = true := by decide +kernel
/-! 10: Form.setting -/
def d10 : Df := ⟨0, 0, (.seq (.ret (.make 0 (.cons (.tup (.cons (.cst (.str "setting")) .nil)) .nil))) .done)⟩
def n10 : List Str := []
theorem ok10 : okS (ccOf cc n10 (defScope (inClass (topS 15) 5)) false) d10.body true (defBody (inClass (topS 15) 5)) = true := by decide +kernel
/-! 11: Form.calls -/
def d11 : Df := ⟨1, 1, (.seq (.ret (.call 4 (.cons (.att (.slot 0) "tree") (.cons (.cst (.str "call")) .nil)))) .done)⟩
def n11 : List Str := ["self"]
theorem ok11 : okS (ccOf cc n11 (defScope (inClass (topS 15) 6)) false) d11.body true (defBody (inClass (topS 15) 6)) = true := by decide +kernel
/-! 12: Form.columns -/
def d12 : Df := ⟨1, 1, (.seq (.ret (.call 4 (.cons (.att (.slot 0) "tree") (.cons (.cst (.str "column")) .nil)))) .done)⟩
def n12 : List Str := ["self"]
theorem ok12 : okS (ccOf cc n12 (defScope (inClass (topS 15) 7)) false) d12.body true (defBody (inClass (topS 15) 7)) = true := by decide +kernel
/-! 13: Form.reads -/
def d13 : Df := ⟨1, 1, (.seq (.ret (.call 4 (.cons (.att (.slot 0) "tree") (.cons (.cst (.str "kept")) .nil)))) .done)⟩
def n13 : List Str := ["self"]
theorem ok13 : okS (ccOf cc n13 (defScope (inClass (topS 15) 8)) false) d13.body true (defBody (inClass (topS 15) 8)) = true := by decide +kernel
/-! 14: Form.same -/
def d14 : Df := ⟨2, 2, (.seq (.ret (.make 0 (.cons (.tup (.cons (.cst (.str "same")) (.cons (.att (.slot 0) "tree") (.cons (.call 28 (.cons (.slot 1) .nil)) .nil)))) .nil))) .done)⟩
def n14 : List Str := ["self", "other"]
theorem ok14 : okS (ccOf cc n14 (defScope (inClass (topS 15) 9)) false) d14.body true (defBody (inClass (topS 15) 9)) = true := by decide +kernel
/-! 15: Form.then -/
def d15 : Df := ⟨3, 3, (.seq (.ret (.make 0 (.cons (.tup (.cons (.cst (.str "when")) (.cons (.att (.slot 0) "tree") (.cons (.call 28 (.cons (.slot 1) .nil)) (.cons (.call 28 (.cons (.slot 2) .nil)) .nil))))) .nil))) .done)⟩
def n15 : List Str := ["self", "one", "other"]
theorem ok15 : okS (ccOf cc n15 (defScope (inClass (topS 15) 10)) false) d15.body true (defBody (inClass (topS 15) 10)) = true := by decide +kernel
/-! 16: Form.by -/
def d16 : Df := ⟨2, 2, (.seq (.ex (.call 27 (.cons (.cst (.str "call")) (.cons (.slot 1) .nil)))) (.seq (.ret (.make 0 (.cons (.tup (.cons (.cst (.str "call")) (.cons (.slot 1) (.cons (.att (.slot 0) "tree") .nil)))) .nil))) .done))⟩
def n16 : List Str := ["self", "k"]
theorem ok16 : okS (ccOf cc n16 (defScope (inClass (topS 15) 11)) false) d16.body true (defBody (inClass (topS 15) 11)) = true := by decide +kernel
/-! 17: Form.__add__ -/
def d17 : Df := ⟨2, 2, (.seq (.ret (.make 0 (.cons (.tup (.cons (.cst (.str "sum")) (.cons (.att (.slot 0) "tree") (.cons (.call 28 (.cons (.slot 1) .nil)) .nil)))) .nil))) .done)⟩
def n17 : List Str := ["self", "other"]
theorem ok17 : okS (ccOf cc n17 (defScope (inClass (topS 15) 12)) false) d17.body true (defBody (inClass (topS 15) 12)) = true := by decide +kernel
/-! 18: Form.__radd__ -/
def d18 : Df := ⟨2, 2, (.seq (.ret (.make 0 (.cons (.tup (.cons (.cst (.str "sum")) (.cons (.call 28 (.cons (.slot 1) .nil)) (.cons (.att (.slot 0) "tree") .nil)))) .nil))) .done)⟩
def n18 : List Str := ["self", "other"]
theorem ok18 : okS (ccOf cc n18 (defScope (inClass (topS 15) 13)) false) d18.body true (defBody (inClass (topS 15) 13)) = true := by decide +kernel
/-! 19: Form.__sub__ -/
def d19 : Df := ⟨2, 2, (.seq (.ret (.make 0 (.cons (.tup (.cons (.cst (.str "less")) (.cons (.att (.slot 0) "tree") (.cons (.call 28 (.cons (.slot 1) .nil)) .nil)))) .nil))) .done)⟩
def n19 : List Str := ["self", "other"]
theorem ok19 : okS (ccOf cc n19 (defScope (inClass (topS 15) 14)) false) d19.body true (defBody (inClass (topS 15) 14)) = true := by decide +kernel
/-! 20: Form.__rsub__ -/
def d20 : Df := ⟨2, 2, (.seq (.ret (.make 0 (.cons (.tup (.cons (.cst (.str "less")) (.cons (.call 28 (.cons (.slot 1) .nil)) (.cons (.att (.slot 0) "tree") .nil)))) .nil))) .done)⟩
def n20 : List Str := ["self", "other"]
theorem ok20 : okS (ccOf cc n20 (defScope (inClass (topS 15) 15)) false) d20.body true (defBody (inClass (topS 15) 15)) = true := by decide +kernel
/-! 21: Form.__mul__ -/
def d21 : Df := ⟨2, 2, (.seq (.ret (.make 0 (.cons (.tup (.cons (.cst (.str "times")) (.cons (.att (.slot 0) "tree") (.cons (.call 28 (.cons (.slot 1) .nil)) .nil)))) .nil))) .done)⟩
def n21 : List Str := ["self", "other"]
theorem ok21 : okS (ccOf cc n21 (defScope (inClass (topS 15) 16)) false) d21.body true (defBody (inClass (topS 15) 16)) = true := by decide +kernel
/-! 22: Form.__rmul__ -/
def d22 : Df := ⟨2, 2, (.seq (.ret (.make 0 (.cons (.tup (.cons (.cst (.str "times")) (.cons (.call 28 (.cons (.slot 1) .nil)) (.cons (.att (.slot 0) "tree") .nil)))) .nil))) .done)⟩
def n22 : List Str := ["self", "other"]
theorem ok22 : okS (ccOf cc n22 (defScope (inClass (topS 15) 17)) false) d22.body true (defBody (inClass (topS 15) 17)) = true := by decide +kernel
/-! 23: Form.__neg__ -/
def d23 : Df := ⟨1, 1, (.seq (.ret (.bin .sub (.cst (.int 0)) (.slot 0))) .done)⟩
def n23 : List Str := ["self"]
theorem ok23 : okS (ccOf cc n23 (defScope (inClass (topS 15) 18)) false) d23.body true (defBody (inClass (topS 15) 18)) = true := by decide +kernel
/-! 24: Form.__contains__ -/
def d24 : Df := ⟨2, 3, (.seq (.ret (.and (.isi (.slot 1) (.ty "str")) (.cmp .mem (.slot 1) (.comp [2] [2] (.call 3 (.cons (.att (.slot 0) "tree") .nil)) (.cst (.bl true)) (.ix (.slot 2) (.cst (.int 0))))))) .done)⟩
def n24 : List Str := ["self", "word", "one"]
theorem ok24 : okS (ccOf cc n24 (defScope (inClass (topS 15) 19)) false) d24.body true (defBody (inClass (topS 15) 19)) = true := by decide +kernel
/-! 25: Form.__len__ -/
def d25 : Df := ⟨1, 1, (.seq (.ret (.blt .len (.cons (.call 3 (.cons (.att (.slot 0) "tree") .nil)) .nil))) .done)⟩
def n25 : List Str := ["self"]
theorem ok25 : okS (ccOf cc n25 (defScope (inClass (topS 15) 20)) false) d25.body true (defBody (inClass (topS 15) 20)) = true := by decide +kernel
/-! 26: Form.__eq__ -/
def d26 : Df := ⟨2, 2, (.seq (.ret (.and (.isi (.slot 1) (.own 0)) (.cmp .eq (.att (.slot 0) "tree") (.att (.slot 1) "tree")))) .done)⟩
def n26 : List Str := ["self", "other"]
theorem ok26 : okS (ccOf cc n26 (defScope (inClass (topS 15) 21)) false) d26.body true (defBody (inClass (topS 15) 21)) = true := by decide +kernel
/-! 27: check_limit -/
def d27 : Df := ⟨2, 2, (.seq (.ite (.not (.call 1 (.cons (.slot 1) (.cons (.ixg "LIMITS" (.slot 0)) .nil)))) (.seq (.raise 3) .done) .done) .done)⟩
def n27 : List Str := ["word", "number"]
theorem ok27 : okS (ccOf cc n27 (defScope (topS 16)) false) d27.body true (defBody (topS 16)) = true := by decide +kernel
/-! 28: tree_of -/
def d28 : Df := ⟨1, 1, (.seq (.ret (.ite (.isi (.slot 0) (.own 0)) (.att (.slot 0) "tree") (.tup (.cons (.cst (.str "number")) (.cons (.slot 0) .nil))))) .done)⟩
def n28 : List Str := ["operand"]
theorem ok28 : okS (ccOf cc n28 (defScope (topS 17)) false) d28.body true (defBody (topS 17)) = true := by decide +kernel
/-! 29: _law_number -/
def d29 : Df := ⟨2, 8, (.seq (.asg 2 (.ite (.cmp .ne (.slot 0) (.lst .nil)) (.slH (.slot 0) (.cst (.int 63))) (.lst (.cons (.cst (.int 5)) .nil)))) (.seq (.seq (.frz [2]) (.asg 3 (.bin .add (.ix (.slot 2) (.bin .mod (.blt .int (.cons (.slot 1) .nil)) (.blt .len (.cons (.slot 2) .nil)))) (.bin .mul (.cst (.int 13)) (.bin .fdiv (.slot 1) (.blt .len (.cons (.slot 2) .nil))))))) (.seq (.seq (.frz [3]) (.par 4 5 (.bin .mod (.blt .int (.cons (.slot 3) .nil)) (.cst (.int 1000003))) (.bin .mod (.blt .int (.cons (.bin .fdiv (.slot 3) (.cst (.int 1000003))) .nil)) (.cst (.int 999983))))) (.seq (.seq (.frz [2]) (.asg 6 (.bin .mod (.blt .int (.cons (.blt .sum (.cons (.slot 2) .nil)) .nil)) (.cst (.int 65521))))) (.seq (.seq (.frz [6]) (.asg 7 (.bin .mod (.blt .int (.cons (.bin .add (.bin .add (.bin .mul (.bin .add (.slot 4) (.bin .mul (.cst (.int 977)) (.slot 1))) (.cst (.int 48271))) (.bin .mul (.cst (.int 31)) (.slot 5))) (.slot 6)) .nil)) (.cst (.int 2147483647))))) (.seq (.seq (.frz [7]) (.ret (.bin .add (.bin .mul (.bin .mod (.blt .int (.cons (.bin .mul (.slot 7) (.bin .add (.bin .add (.slot 7) (.bin .mul (.cst (.int 31)) (.slot 1))) (.cst (.int 7)))) .nil)) (.cst (.int 2147483629))) (.cst (.int 65537))) (.slot 5)))) .done))))))⟩
def n29 : List Str := ["script", "index", "cells", "cell", "low", "high", "total", "blend"]
theorem ok29 : okS (ccOf cc n29 (defScope (topS 19)) false) d29.body true (defBody (topS 19)) = true := by decide +kernel
/-! 30: _law_tree -/
def d30 : Df := ⟨5, 13, (.seq (.asg 5 (.blt .int (.cons (.call 29 (.cons (.slot 0) (.cons (.slot 1) .nil))) .nil))) (.seq (.seq (.frz [5]) (.ite (.or (.cmp .lt (.slot 2) (.cst (.int 2))) (.cmp .eq (.bin .mod (.blt .int (.cons (.slot 5) .nil)) (.cst (.int 7))) (.cst (.int 0)))) (.seq (.seq (.frz [5]) (.ret (.ix (.slot 3) (.bin .mod (.blt .int (.cons (.bin .fdiv (.slot 5) (.cst (.int 7))) .nil)) (.blt .len (.cons (.slot 3) .nil)))))) .done) .done)) (.seq (.seq (.frz [5]) (.par 6 7 (.bin .mod (.blt .int (.cons (.bin .fdiv (.slot 5) (.cst (.int 7))) .nil)) (.cst (.int 8))) (.bin .fdiv (.slot 5) (.cst (.int 56))))) (.seq (.ite (.and (.cmp .ne (.slot 4) (.lst .nil)) (.or (.cmp .lt (.slot 6) (.cst (.int 3))) (.cmp .lt (.slot 2) (.cst (.int 3))))) (.seq (.ret (.tup (.cons (.cst (.str "call")) (.cons (.ix (.slot 4) (.bin .mod (.blt .int (.cons (.slot 7) .nil)) (.blt .len (.cons (.slot 4) .nil)))) (.cons (.call 30 (.cons (.slot 0) (.cons (.bin .add (.slot 1) (.cst (.int 1))) (.cons (.bin .sub (.slot 2) (.cst (.int 1))) (.cons (.slot 3) (.cons (.slot 4) .nil)))))) .nil))))) .done) .done) (.seq (.ite (.cmp .lt (.slot 2) (.cst (.int 3))) (.seq (.ret (.ix (.slot 3) (.bin .mod (.blt .int (.cons (.slot 7) .nil)) (.blt .len (.cons (.slot 3) .nil))))) .done) .done) (.seq (.seq (.frz [8, 9, 10]) (.ite (.and (.cmp .eq (.slot 6) (.cst (.int 3))) (.cmp .gt (.slot 2) (.cst (.int 3)))) (.seq (.asg 8 (.bin .fdiv (.bin .sub (.slot 2) (.cst (.int 1))) (.cst (.int 3)))) (.seq (.seq (.frz [8]) (.asg 9 (.call 30 (.cons (.slot 0) (.cons (.bin .add (.slot 1) (.cst (.int 1))) (.cons (.slot 8) (.cons (.slot 3) (.cons (.slot 4) .nil)))))))) (.seq (.seq (.frz [8]) (.asg 10 (.call 30 (.cons (.slot 0) (.cons (.bin .add (.slot 1) (.cst (.int 15))) (.cons (.slot 8) (.cons (.slot 3) (.cons (.slot 4) .nil)))))))) (.seq (.seq (.frz [8, 9, 10]) (.ret (.tup (.cons (.cst (.str "when")) (.cons (.slot 9) (.cons (.slot 10) (.cons (.call 30 (.cons (.slot 0) (.cons (.bin .add (.slot 1) (.cst (.int 29))) (.cons (.bin .sub (.bin .sub (.slot 2) (.cst (.int 1))) (.bin .mul (.cst (.int 2)) (.slot 8))) (.cons (.slot 3) (.cons (.slot 4) .nil)))))) .nil))))))) .done)))) .done)) (.seq (.asg 11 (.bin .add (.cst (.int 1)) (.bin .mod (.blt .int (.cons (.bin .fdiv (.slot 7) (.cst (.int 4))) .nil)) (.bin .sub (.slot 2) (.cst (.int 2)))))) (.seq (.seq (.frz [11]) (.asg 10 (.call 30 (.cons (.slot 0) (.cons (.bin .add (.slot 1) (.cst (.int 1))) (.cons (.slot 11) (.cons (.slot 3) (.cons (.slot 4) .nil)))))))) (.seq (.seq (.frz [11]) (.asg 12 (.call 30 (.cons (.slot 0) (.cons (.bin .add (.bin .add (.slot 1) (.cst (.int 2))) (.slot 11)) (.cons (.bin .sub (.bin .sub (.slot 2) (.cst (.int 1))) (.slot 11)) (.cons (.slot 3) (.cons (.slot 4) .nil)))))))) (.seq (.seq (.frz [10, 12]) (.ret (.tup (.cons (.ix (.tup (.cons (.cst (.str "sum")) (.cons (.cst (.str "less")) (.cons (.cst (.str "times")) (.cons (.cst (.str "same")) .nil))))) (.bin .mod (.blt .int (.cons (.slot 7) .nil)) (.cst (.int 4)))) (.cons (.slot 10) (.cons (.slot 12) .nil)))))) .done))))))))))⟩
def n30 : List Str := ["script", "at", "size", "leaves", "calls", "seed", "kind", "rest", "part", "test", "one", "left", "other"]
theorem ok30 : okS (ccOf cc n30 (defScope (topS 20)) false) d30.body true (defBody (topS 20)) = true := by decide +kernel
/-! 31: _law_any_tree -/
def d31 : Df := ⟨3, 4, (.seq (.asg 3 (.lst (.cons (.tup (.cons (.cst (.str "given")) .nil)) (.cons (.tup (.cons (.cst (.str "setting")) .nil)) (.cons (.tup (.cons (.cst (.str "number")) (.cons (.cst (.int 0)) .nil))) (.cons (.tup (.cons (.cst (.str "number")) (.cons (.cst (.int 2)) .nil))) (.cons (.tup (.cons (.cst (.str "column")) (.cons (.cst (.int 0)) .nil))) (.cons (.tup (.cons (.cst (.str "column")) (.cons (.cst (.int 1)) .nil))) .nil)))))))) (.seq (.seq (.frz [3]) (.asg 3 (.bin .add (.slot 3) (.lst (.cons (.tup (.cons (.cst (.str "kept")) (.cons (.cst (.int 0)) .nil))) (.cons (.tup (.cons (.cst (.str "kept")) (.cons (.cst (.int 1)) .nil))) (.cons (.tup (.cons (.cst (.str "number")) (.cons (.cst (.int 1)) .nil))) .nil))))))) (.seq (.seq (.frz [3]) (.ret (.call 30 (.cons (.slot 0) (.cons (.slot 1) (.cons (.slot 2) (.cons (.slot 3) (.cons (.lst (.cons (.cst (.int 0)) (.cons (.cst (.int 1)) (.cons (.cst (.int 2)) .nil)))) .nil)))))))) .done)))⟩
def n31 : List Str := ["script", "at", "size", "leaves"]
theorem ok31 : okS (ccOf cc n31 (defScope (topS 21)) false) d31.body true (defBody (topS 21)) = true := by decide +kernel
/-! 32: _law_in -/
def d32 : Df := ⟨1, 3, (.seq (.asg 1 (.lst (.cons (.slot 0) .nil))) (.seq (.seq (.frz [1]) (.for_ [2] (.slL (.slot 0) (.cst (.int 1))) (.seq (.seq (.frz [1]) (.ite (.isi (.slot 2) (.ty "tuple")) (.seq (.seq (.frz [1]) (.asg 1 (.bin .add (.slot 1) (.call 32 (.cons (.slot 2) .nil))))) .done) .done)) .done))) (.seq (.seq (.frz [1]) (.ret (.slot 1))) .done)))⟩
def n32 : List Str := ["tree", "found", "part"]
theorem ok32 : okS (ccOf cc n32 (defScope (topS 22)) false) d32.body true (defBody (topS 22)) = true := by decide +kernel
/-! 33: _law_due -/
def d33 : Df := ⟨1, 1, (.seq (.ret (.ite (.cmp .le (.blt .len (.cons (.call 32 (.cons (.slot 0) .nil)) .nil)) (.cst (.int 12))) (.slot 0) (.cst .non))) .done)⟩
def n33 : List Str := ["tree"]
theorem ok33 : okS (ccOf cc n33 (defScope (topS 24)) false) d33.body true (defBody (topS 24)) = true := by decide +kernel
/-! 34: _law_one_right -/
def d34 : Df := ⟨2, 8, (.seq (.asg 2 (.call 32 (.cons (.slot 1) .nil))) (.seq (.seq (.frz [2]) (.ite (.or (.cmp .ne (.att (.slot 0) "tree") (.slot 1)) (.cmp .ne (.blt .len (.cons (.slot 0) .nil)) (.blt .len (.cons (.slot 2) .nil)))) (.seq (.ret (.cst (.bl false))) .done) .done)) (.seq (.seq (.frz [2]) (.for_ [3, 4] (.tup (.cons (.tup (.cons (.cst (.str "call")) (.cons (.att (.slot 0) "calls") .nil))) (.cons (.tup (.cons (.cst (.str "column")) (.cons (.att (.slot 0) "columns") .nil))) (.cons (.tup (.cons (.cst (.str "kept")) (.cons (.att (.slot 0) "reads") .nil))) .nil)))) (.seq (.seq (.frz [2]) (.ite (.cmp .ne (.slot 4) (.blt .tuple (.cons (.blt .sset (.cons (.comp [5] [5] (.slot 2) (.cmp .eq (.ix (.slot 5) (.cst (.int 0))) (.slot 3)) (.blt .int (.cons (.ix (.slot 5) (.cst (.int 1))) .nil))) .nil)) .nil))) (.seq (.ret (.cst (.bl false))) .done) .done)) .done))) (.seq (.seq (.frz [2]) (.asg 6 (.comp [5] [5] (.slot 2) (.cst (.bl true)) (.ix (.slot 5) (.cst (.int 0)))))) (.seq (.seq (.frz [6]) (.for_ [3] (.tup (.cons (.cst (.str "number")) (.cons (.cst (.str "given")) (.cons (.cst (.str "setting")) (.cons (.cst (.str "column")) (.cons (.cst (.str "kept")) (.cons (.cst (.str "call")) (.cons (.cst (.str "sum")) (.cons (.cst (.str "less")) (.cons (.cst (.str "times")) (.cons (.cst (.str "same")) (.cons (.cst (.str "when")) .nil)))))))))))) (.seq (.seq (.frz [6]) (.ite (.cmp .ne (.cmp .mem (.slot 3) (.slot 0)) (.cmp .mem (.slot 3) (.slot 6))) (.seq (.ret (.cst (.bl false))) .done) .done)) .done))) (.seq (.ret (.not (.blt .any (.cons (.comp [7] [7] (.tup (.cons (.cst (.str "")) (.cons (.cst (.str "Sum")) (.cons (.cst .non) (.cons (.cst (.int 0)) (.cons (.slot 1) (.cons (.slot 0) (.cons (.lst .nil) (.cons (.cst (.str "forms")) .nil))))))))) (.cst (.bl true)) (.cmp .mem (.slot 7) (.slot 0))) .nil)))) .done))))))⟩
def n34 : List Str := ["form", "tree", "rows", "word", "found", "row", "words", "thing"]
theorem ok34 : okS (ccOf cc n34 (defScope (topS 25)) false) d34.body true (defBody (topS 25)) = true := by decide +kernel
/-! 35: _law_numbers_right -/
def d35 : Df := ⟨2, 4, (.seq (.for_ [2] (.rng (.cons (.cst (.int 3)) .nil)) (.seq (.asg 3 (.tup (.cons (.cst (.str "number")) (.cons (.slot 2) .nil)))) (.seq (.ite (.cmp .ne (.lamc 0 (.bin .add (.slot 0) (.slot 2))) (.call 33 (.cons (.tup (.cons (.cst (.str "sum")) (.cons (.slot 1) (.cons (.slot 3) .nil)))) .nil))) (.seq (.ret (.cst (.bl false))) .done) .done) (.seq (.ite (.cmp .ne (.lamc 0 (.bin .add (.slot 2) (.slot 0))) (.call 33 (.cons (.tup (.cons (.cst (.str "sum")) (.cons (.slot 3) (.cons (.slot 1) .nil)))) .nil))) (.seq (.ret (.cst (.bl false))) .done) .done) (.seq (.ite (.cmp .ne (.lamc 0 (.bin .sub (.slot 0) (.slot 2))) (.call 33 (.cons (.tup (.cons (.cst (.str "less")) (.cons (.slot 1) (.cons (.slot 3) .nil)))) .nil))) (.seq (.ret (.cst (.bl false))) .done) .done) (.seq (.ite (.cmp .ne (.lamc 0 (.bin .sub (.slot 2) (.slot 0))) (.call 33 (.cons (.tup (.cons (.cst (.str "less")) (.cons (.slot 3) (.cons (.slot 1) .nil)))) .nil))) (.seq (.ret (.cst (.bl false))) .done) .done) (.seq (.ite (.cmp .ne (.lamc 0 (.bin .mul (.slot 0) (.slot 2))) (.call 33 (.cons (.tup (.cons (.cst (.str "times")) (.cons (.slot 1) (.cons (.slot 3) .nil)))) .nil))) (.seq (.ret (.cst (.bl false))) .done) .done) (.seq (.ite (.cmp .ne (.lamc 0 (.bin .mul (.slot 2) (.slot 0))) (.call 33 (.cons (.tup (.cons (.cst (.str "times")) (.cons (.slot 3) (.cons (.slot 1) .nil)))) .nil))) (.seq (.ret (.cst (.bl false))) .done) .done) (.seq (.ite (.cmp .ne (.lamc 0 (.meth (.slot 0) "same" (.cons (.slot 2) .nil))) (.call 33 (.cons (.tup (.cons (.cst (.str "same")) (.cons (.slot 1) (.cons (.slot 3) .nil)))) .nil))) (.seq (.ret (.cst (.bl false))) .done) .done) (.seq (.ite (.cmp .ne (.lamc 0 (.meth (.slot 0) "then" (.cons (.slot 2) (.cons (.slot 0) .nil)))) (.call 33 (.cons (.tup (.cons (.cst (.str "when")) (.cons (.slot 1) (.cons (.slot 3) (.cons (.slot 1) .nil))))) .nil))) (.seq (.ret (.cst (.bl false))) .done) .done) (.seq (.ite (.cmp .ne (.lamc 0 (.meth (.slot 0) "then" (.cons (.slot 0) (.cons (.slot 2) .nil)))) (.call 33 (.cons (.tup (.cons (.cst (.str "when")) (.cons (.slot 1) (.cons (.slot 1) (.cons (.slot 3) .nil))))) .nil))) (.seq (.ret (.cst (.bl false))) .done) .done) (.seq (.ite (.cmp .ne (.lamc 0 (.meth (.slot 0) "by" (.cons (.slot 2) .nil))) (.call 33 (.cons (.tup (.cons (.cst (.str "call")) (.cons (.slot 2) (.cons (.slot 1) .nil)))) .nil))) (.seq (.ret (.cst (.bl false))) .done) .done) .done)))))))))))) (.seq (.ret (.cmp .eq (.lamc 0 (.neg (.slot 0))) (.call 33 (.cons (.tup (.cons (.cst (.str "less")) (.cons (.tup (.cons (.cst (.str "number")) (.cons (.cst (.int 0)) .nil))) (.cons (.slot 1) .nil)))) .nil)))) .done))⟩
def n35 : List Str := ["one", "mine", "number", "leaf"]
theorem ok35 : okS (ccOf cc n35 (defScope (topS 26)) true) d35.body true (defBody (topS 26)) = true := by decide +kernel
/-! 36: _law_pair_right -/
def d36 : Df := ⟨4, 5, (.seq (.ite (.cmp .ne (.lamc 0 (.bin .add (.slot 0) (.slot 2))) (.call 33 (.cons (.tup (.cons (.cst (.str "sum")) (.cons (.slot 1) (.cons (.slot 3) .nil)))) .nil))) (.seq (.ret (.cst (.bl false))) .done) .done) (.seq (.ite (.cmp .ne (.lamc 0 (.bin .sub (.slot 0) (.slot 2))) (.call 33 (.cons (.tup (.cons (.cst (.str "less")) (.cons (.slot 1) (.cons (.slot 3) .nil)))) .nil))) (.seq (.ret (.cst (.bl false))) .done) .done) (.seq (.ite (.cmp .ne (.lamc 0 (.bin .mul (.slot 0) (.slot 2))) (.call 33 (.cons (.tup (.cons (.cst (.str "times")) (.cons (.slot 1) (.cons (.slot 3) .nil)))) .nil))) (.seq (.ret (.cst (.bl false))) .done) .done) (.seq (.ite (.cmp .ne (.lamc 0 (.meth (.slot 0) "same" (.cons (.slot 2) .nil))) (.call 33 (.cons (.tup (.cons (.cst (.str "same")) (.cons (.slot 1) (.cons (.slot 3) .nil)))) .nil))) (.seq (.ret (.cst (.bl false))) .done) .done) (.seq (.ite (.cmp .ne (.lamc 0 (.meth (.slot 0) "then" (.cons (.slot 2) (.cons (.slot 0) .nil)))) (.call 33 (.cons (.tup (.cons (.cst (.str "when")) (.cons (.slot 1) (.cons (.slot 3) (.cons (.slot 1) .nil))))) .nil))) (.seq (.ret (.cst (.bl false))) .done) .done) (.seq (.asg 4 (.cmp .eq (.slot 1) (.slot 3))) (.seq (.ret (.and (.cmp .eq (.cmp .eq (.slot 0) (.slot 2)) (.slot 4)) (.cmp .ne (.cmp .ne (.slot 0) (.slot 2)) (.slot 4)))) .done)))))))⟩
def n36 : List Str := ["one", "mine", "two", "theirs", "due"]
theorem ok36 : okS (ccOf cc n36 (defScope (topS 27)) true) d36.body true (defBody (topS 27)) = true := by decide +kernel
/-! 37: law -/
def d37 : Df := ⟨1, 15, (.seq (.asg 1 (.lst .nil)) (.seq (.for_ [2] (.rng (.cons (.cst (.int 6)) .nil)) (.seq (.asg 3 (.ix (.tup (.cons (.cst (.int 2)) (.cons (.cst (.int 5)) (.cons (.cst (.int 6)) (.cons (.cst (.int 11)) (.cons (.cst (.int 12)) (.cons (.cst (.int 12)) .nil))))))) (.slot 2))) (.seq (.app 1 (.call 31 (.cons (.slot 0) (.cons (.bin .mul (.cst (.int 40)) (.slot 2)) (.cons (.bin .add (.cst (.int 1)) (.bin .mod (.blt .int (.cons (.call 29 (.cons (.slot 0) (.cons (.bin .add (.cst (.int 300)) (.slot 2)) .nil))) .nil)) (.slot 3))) .nil))))) .done))) (.seq (.seq (.frz [1]) (.asg 4 (.comp [5] [5] (.slot 1) (.cst (.bl true)) (.make 0 (.cons (.slot 5) .nil))))) (.seq (.seq (.frz [1, 4]) (.for_ [6, 7] (.zip (.cons (.slot 4) (.cons (.slot 1) .nil))) (.seq (.ite (.or (.not (.call 34 (.cons (.slot 6) (.cons (.slot 7) .nil)))) (.or (.not (.call 35 (.cons (.slot 6) (.cons (.slot 7) .nil)))) (.cmp .ne (.slot 6) (.make 0 (.cons (.slot 7) .nil))))) (.seq (.ret (.cst (.bl false))) .done) .done) (.seq (.seq (.frz [1, 4]) (.for_ [8, 9] (.zip (.cons (.slot 4) (.cons (.slot 1) .nil))) (.seq (.ite (.not (.call 36 (.cons (.slot 6) (.cons (.slot 7) (.cons (.slot 8) (.cons (.slot 9) .nil)))))) (.seq (.ret (.cst (.bl false))) .done) .done) .done))) .done)))) (.seq (.asg 10 (.bin .add (.comp [11] [11] (.rng (.cons (.cst (.int 3)) .nil)) (.cst (.bl true)) (.clm 0 "number" (.cons (.slot 11) .nil))) (.comp [12] [12] (.rng (.cons (.cst (.int 2)) .nil)) (.cst (.bl true)) (.clm 0 "column" (.cons (.slot 12) .nil))))) (.seq (.seq (.frz [10]) (.asg 10 (.bin .add (.bin .add (.slot 10) (.comp [13] [13] (.rng (.cons (.cst (.int 2)) .nil)) (.cst (.bl true)) (.clm 0 "kept" (.cons (.slot 13) .nil)))) (.lst (.cons (.stm 0 "given" .nil) (.cons (.stm 0 "setting" .nil) .nil)))))) (.seq (.asg 14 (.bin .add (.comp [11] [11] (.rng (.cons (.cst (.int 3)) .nil)) (.cst (.bl true)) (.tup (.cons (.cst (.str "number")) (.cons (.slot 11) .nil)))) (.comp [12] [12] (.rng (.cons (.cst (.int 2)) .nil)) (.cst (.bl true)) (.tup (.cons (.cst (.str "column")) (.cons (.slot 12) .nil)))))) (.seq (.seq (.frz [14]) (.asg 14 (.bin .add (.bin .add (.slot 14) (.comp [13] [13] (.rng (.cons (.cst (.int 2)) .nil)) (.cst (.bl true)) (.tup (.cons (.cst (.str "kept")) (.cons (.slot 13) .nil))))) (.lst (.cons (.tup (.cons (.cst (.str "given")) .nil)) (.cons (.tup (.cons (.cst (.str "setting")) .nil)) .nil)))))) (.seq (.seq (.frz [10, 14]) (.ret (.and (.cmp .eq (.comp [6] [6] (.slot 10) (.cst (.bl true)) (.att (.slot 6) "tree")) (.slot 14)) (.blt .all (.cons (.comp [6] [6] (.slot 10) (.cst (.bl true)) (.isi (.slot 6) (.own 0))) .nil))))) .done)))))))))⟩
def n37 : List Str := ["script", "trees", "turn", "most", "forms", "tree", "one", "mine", "two", "theirs", "made", "n", "c", "t", "due"]
theorem ok37 : okS (ccOf cc n37 (defScope (topS 28)) false) d37.body true (defBody (topS 28)) = true := by decide +kernel
def c0 : Cl := { init := 5, flds := ["tree"], meths := [("same", 14), ("then", 15), ("by", 16), ("__add__", 17), ("__radd__", 18), ("__sub__", 19), ("__rsub__", 20), ("__mul__", 21), ("__rmul__", 22), ("__neg__", 23), ("__contains__", 24), ("__len__", 25), ("__eq__", 26)], props := [("calls", 11), ("columns", 12), ("reads", 13)], cms := [("number", 6), ("column", 7), ("kept", 8)], sts := [("given", 9), ("setting", 10)] }
end
-- _law_heard: topS 23
def G : Gm := { defs := [d0, d1, d2, d3, d4, d5, d6, d7, d8, d9, d10, d11, d12, d13, d14, d15, d16, d17, d18, d19, d20, d21, d22, d23, d24, d25, d26, d27, d28, d29, d30, d31, d32, d33, d34, d35, d36, d37], cls := [c0], consts := [("MOST_FORMS", (.int 12))], tabs := [("SHAPES", [("number", (.tup [(.int 2), (.int 2)])), ("given", (.tup [(.int 1), (.int 1)])), ("setting", (.tup [(.int 1), (.int 1)])), ("column", (.tup [(.int 2), (.int 2)])), ("kept", (.tup [(.int 2), (.int 2)])), ("call", (.tup [(.int 3), (.int 2)])), ("sum", (.tup [(.int 3), (.int 1)])), ("less", (.tup [(.int 3), (.int 1)])), ("times", (.tup [(.int 3), (.int 1)])), ("same", (.tup [(.int 3), (.int 1)])), ("when", (.tup [(.int 4), (.int 1)]))]), ("LIMITS", [("number", (.int 3)), ("column", (.int 2)), ("kept", (.int 2)), ("call", (.int 3))])], hds := [⟨(some "tree"), [([2], .non)]⟩] }
def e0 : Hk.Dd := ⟨.fn "is_whole", "is_whole", "is_whole", topS 5, ["value"], ["value"], false⟩
theorem b0 : BindP e0 := fun K fd F => F.bindsN fun _ _ _ _ _ _ us hl => match us, hl with | [_], _ => rfl
def e1 : Hk.Dd := ⟨.fn "is_below", "is_below", "is_below", topS 6, ["value", "limit"], ["value", "limit"], false⟩
theorem b1 : BindP e1 := fun K fd F => F.bindsN fun _ _ _ _ _ _ us hl => match us, hl with | [_, _], _ => rfl
def e2 : Hk.Dd := ⟨.fn "has_shape", "has_shape", "has_shape", topS 11, ["tree", "word"], ["tree"], false⟩
theorem b2 : BindP e2 := fun K fd F => F.bindsN fun _ _ _ _ _ _ us hl => match us, hl with | [_], _ => rfl
def e3 : Hk.Dd := ⟨.fn "forms_in", "forms_in", "forms_in", topS 12, ["tree", "standing", "at", "one"], ["tree"], false⟩
theorem b3 : BindP e3 := fun K fd F => F.bindsN fun _ _ _ _ _ _ us hl => match us, hl with | [_], _ => rfl
def e4 : Hk.Dd := ⟨.fn "numbers_after", "numbers_after", "numbers_after", topS 13, ["tree", "word", "one"], ["tree", "word"], false⟩
theorem b4 : BindP e4 := fun K fd F => F.bindsN fun _ _ _ _ _ _ us hl => match us, hl with | [_, _], _ => rfl
def e5 : Hk.Dd := ⟨.meth "Form" "__init__", "__init__", "Form.__init__", inClass (topS 15) 0, ["self", "tree"], ["self", "tree"], false⟩
theorem b5 : BindP e5 := fun K fd F => F.bindsN fun _ _ _ _ _ _ us hl => match us, hl with | [_, _], _ => rfl
def e6 : Hk.Dd := ⟨.cm "Form" "number", "number", "Form.number", inClass (topS 15) 1, ["cls", "n"], ["cls", "n"], false⟩
theorem b6 : BindP e6 := fun K fd F => F.bindsN fun _ _ _ _ _ _ us hl => match us, hl with | [_, _], _ => rfl
def e7 : Hk.Dd := ⟨.cm "Form" "column", "column", "Form.column", inClass (topS 15) 2, ["cls", "c"], ["cls", "c"], false⟩
theorem b7 : BindP e7 := fun K fd F => F.bindsN fun _ _ _ _ _ _ us hl => match us, hl with | [_, _], _ => rfl
def e8 : Hk.Dd := ⟨.cm "Form" "kept", "kept", "Form.kept", inClass (topS 15) 3, ["cls", "t"], ["cls", "t"], false⟩
theorem b8 : BindP e8 := fun K fd F => F.bindsN fun _ _ _ _ _ _ us hl => match us, hl with | [_, _], _ => rfl
def e9 : Hk.Dd := ⟨.sm "Form" "given", "given", "Form.given", inClass (topS 15) 4, [], [], false⟩
theorem b9 : BindP e9 := fun K fd F => F.bindsN fun _ _ _ _ _ _ us hl => match us, hl with | [], _ => rfl
def e10 : Hk.Dd := ⟨.sm "Form" "setting", "setting", "Form.setting", inClass (topS 15) 5, [], [], false⟩
theorem b10 : BindP e10 := fun K fd F => F.bindsN fun _ _ _ _ _ _ us hl => match us, hl with | [], _ => rfl
def e11 : Hk.Dd := ⟨.prop "Form" "calls", "calls", "Form.calls", inClass (topS 15) 6, ["self"], ["self"], false⟩
theorem b11 : BindP e11 := fun K fd F => F.bindsN fun _ _ _ _ _ _ us hl => match us, hl with | [_], _ => rfl
def e12 : Hk.Dd := ⟨.prop "Form" "columns", "columns", "Form.columns", inClass (topS 15) 7, ["self"], ["self"], false⟩
theorem b12 : BindP e12 := fun K fd F => F.bindsN fun _ _ _ _ _ _ us hl => match us, hl with | [_], _ => rfl
def e13 : Hk.Dd := ⟨.prop "Form" "reads", "reads", "Form.reads", inClass (topS 15) 8, ["self"], ["self"], false⟩
theorem b13 : BindP e13 := fun K fd F => F.bindsN fun _ _ _ _ _ _ us hl => match us, hl with | [_], _ => rfl
def e14 : Hk.Dd := ⟨.meth "Form" "same", "same", "Form.same", inClass (topS 15) 9, ["self", "other"], ["self", "other"], false⟩
theorem b14 : BindP e14 := fun K fd F => F.bindsN fun _ _ _ _ _ _ us hl => match us, hl with | [_, _], _ => rfl
def e15 : Hk.Dd := ⟨.meth "Form" "then", "then", "Form.then", inClass (topS 15) 10, ["self", "one", "other"], ["self", "one", "other"], false⟩
theorem b15 : BindP e15 := fun K fd F => F.bindsN fun _ _ _ _ _ _ us hl => match us, hl with | [_, _, _], _ => rfl
def e16 : Hk.Dd := ⟨.meth "Form" "by", "by", "Form.by", inClass (topS 15) 11, ["self", "k"], ["self", "k"], false⟩
theorem b16 : BindP e16 := fun K fd F => F.bindsN fun _ _ _ _ _ _ us hl => match us, hl with | [_, _], _ => rfl
def e17 : Hk.Dd := ⟨.meth "Form" "__add__", "__add__", "Form.__add__", inClass (topS 15) 12, ["self", "other"], ["self", "other"], false⟩
theorem b17 : BindP e17 := fun K fd F => F.bindsN fun _ _ _ _ _ _ us hl => match us, hl with | [_, _], _ => rfl
def e18 : Hk.Dd := ⟨.meth "Form" "__radd__", "__radd__", "Form.__radd__", inClass (topS 15) 13, ["self", "other"], ["self", "other"], false⟩
theorem b18 : BindP e18 := fun K fd F => F.bindsN fun _ _ _ _ _ _ us hl => match us, hl with | [_, _], _ => rfl
def e19 : Hk.Dd := ⟨.meth "Form" "__sub__", "__sub__", "Form.__sub__", inClass (topS 15) 14, ["self", "other"], ["self", "other"], false⟩
theorem b19 : BindP e19 := fun K fd F => F.bindsN fun _ _ _ _ _ _ us hl => match us, hl with | [_, _], _ => rfl
def e20 : Hk.Dd := ⟨.meth "Form" "__rsub__", "__rsub__", "Form.__rsub__", inClass (topS 15) 15, ["self", "other"], ["self", "other"], false⟩
theorem b20 : BindP e20 := fun K fd F => F.bindsN fun _ _ _ _ _ _ us hl => match us, hl with | [_, _], _ => rfl
def e21 : Hk.Dd := ⟨.meth "Form" "__mul__", "__mul__", "Form.__mul__", inClass (topS 15) 16, ["self", "other"], ["self", "other"], false⟩
theorem b21 : BindP e21 := fun K fd F => F.bindsN fun _ _ _ _ _ _ us hl => match us, hl with | [_, _], _ => rfl
def e22 : Hk.Dd := ⟨.meth "Form" "__rmul__", "__rmul__", "Form.__rmul__", inClass (topS 15) 17, ["self", "other"], ["self", "other"], false⟩
theorem b22 : BindP e22 := fun K fd F => F.bindsN fun _ _ _ _ _ _ us hl => match us, hl with | [_, _], _ => rfl
def e23 : Hk.Dd := ⟨.meth "Form" "__neg__", "__neg__", "Form.__neg__", inClass (topS 15) 18, ["self"], ["self"], false⟩
theorem b23 : BindP e23 := fun K fd F => F.bindsN fun _ _ _ _ _ _ us hl => match us, hl with | [_], _ => rfl
def e24 : Hk.Dd := ⟨.meth "Form" "__contains__", "__contains__", "Form.__contains__", inClass (topS 15) 19, ["self", "word", "one"], ["self", "word"], false⟩
theorem b24 : BindP e24 := fun K fd F => F.bindsN fun _ _ _ _ _ _ us hl => match us, hl with | [_, _], _ => rfl
def e25 : Hk.Dd := ⟨.meth "Form" "__len__", "__len__", "Form.__len__", inClass (topS 15) 20, ["self"], ["self"], false⟩
theorem b25 : BindP e25 := fun K fd F => F.bindsN fun _ _ _ _ _ _ us hl => match us, hl with | [_], _ => rfl
def e26 : Hk.Dd := ⟨.meth "Form" "__eq__", "__eq__", "Form.__eq__", inClass (topS 15) 21, ["self", "other"], ["self", "other"], false⟩
theorem b26 : BindP e26 := fun K fd F => F.bindsN fun _ _ _ _ _ _ us hl => match us, hl with | [_, _], _ => rfl
def e27 : Hk.Dd := ⟨.fn "check_limit", "check_limit", "check_limit", topS 16, ["word", "number"], ["word", "number"], false⟩
theorem b27 : BindP e27 := fun K fd F => F.bindsN fun _ _ _ _ _ _ us hl => match us, hl with | [_, _], _ => rfl
def e28 : Hk.Dd := ⟨.fn "tree_of", "tree_of", "tree_of", topS 17, ["operand"], ["operand"], false⟩
theorem b28 : BindP e28 := fun K fd F => F.bindsN fun _ _ _ _ _ _ us hl => match us, hl with | [_], _ => rfl
def e29 : Hk.Dd := ⟨.fn "_law_number", "_law_number", "_law_number", topS 19, ["script", "index", "cells", "cell", "low", "high", "total", "blend"], ["script", "index"], false⟩
theorem b29 : BindP e29 := fun K fd F => F.bindsN fun _ _ _ _ _ _ us hl => match us, hl with | [_, _], _ => rfl
def e30 : Hk.Dd := ⟨.fn "_law_tree", "_law_tree", "_law_tree", topS 20, ["script", "at", "size", "leaves", "calls", "seed", "kind", "rest", "part", "test", "one", "left", "other"], ["script", "at", "size", "leaves", "calls"], false⟩
theorem b30 : BindP e30 := fun K fd F => F.bindsN fun _ _ _ _ _ _ us hl => match us, hl with | [_, _, _, _, _], _ => rfl
def e31 : Hk.Dd := ⟨.fn "_law_any_tree", "_law_any_tree", "_law_any_tree", topS 21, ["script", "at", "size", "leaves"], ["script", "at", "size"], false⟩
theorem b31 : BindP e31 := fun K fd F => F.bindsN fun _ _ _ _ _ _ us hl => match us, hl with | [_, _, _], _ => rfl
def e32 : Hk.Dd := ⟨.fn "_law_in", "_law_in", "_law_in", topS 22, ["tree", "found", "part"], ["tree"], false⟩
theorem b32 : BindP e32 := fun K fd F => F.bindsN fun _ _ _ _ _ _ us hl => match us, hl with | [_], _ => rfl
def e33 : Hk.Dd := ⟨.fn "_law_due", "_law_due", "_law_due", topS 24, ["tree"], ["tree"], false⟩
theorem b33 : BindP e33 := fun K fd F => F.bindsN fun _ _ _ _ _ _ us hl => match us, hl with | [_], _ => rfl
def e34 : Hk.Dd := ⟨.fn "_law_one_right", "_law_one_right", "_law_one_right", topS 25, ["form", "tree", "rows", "word", "found", "row", "words", "thing"], ["form", "tree"], false⟩
theorem b34 : BindP e34 := fun K fd F => F.bindsN fun _ _ _ _ _ _ us hl => match us, hl with | [_, _], _ => rfl
def e35 : Hk.Dd := ⟨.fn "_law_numbers_right", "_law_numbers_right", "_law_numbers_right", topS 26, ["one", "mine", "number", "leaf"], ["one", "mine"], true⟩
theorem b35 : BindP e35 := fun K fd F => F.bindsN fun _ _ _ _ _ _ us hl => match us, hl with | [_, _], _ => rfl
def e36 : Hk.Dd := ⟨.fn "_law_pair_right", "_law_pair_right", "_law_pair_right", topS 27, ["one", "mine", "two", "theirs", "due"], ["one", "mine", "two", "theirs"], true⟩
theorem b36 : BindP e36 := fun K fd F => F.bindsN fun _ _ _ _ _ _ us hl => match us, hl with | [_, _, _, _], _ => rfl
def e37 : Hk.Dd := ⟨.fn "law", "law", "law", topS 28, ["script", "trees", "turn", "most", "forms", "tree", "one", "mine", "two", "theirs", "made", "n", "c", "t", "due"], ["script"], false⟩
theorem b37 : BindP e37 := fun K fd F => F.bindsN fun _ _ _ _ _ _ us hl => match us, hl with | [_], _ => rfl
def e38 : Hk.Dd := ⟨.fn "_law_heard", "_law_heard", "_law_heard", topS 23, ["call"], ["call"], false⟩
theorem b38 : BindP e38 := fun K fd F => F.bindsN fun _ _ _ _ _ _ us hl => match us, hl with | [_], _ => rfl
def R : Hk.Rw := { ds := [e0, e1, e2, e3, e4, e5, e6, e7, e8, e9, e10, e11, e12, e13, e14, e15, e16, e17, e18, e19, e20, e21, e22, e23, e24, e25, e26, e27, e28, e29, e30, e31, e32, e33, e34, e35, e36, e37, e38], ord := ["Form"], exs := ["MeaningError", "BadForm", "BadNumber"], ts := [("SHAPES", ["number", "given", "setting", "column", "kept", "call", "sum", "less", "times", "same", "when"]), ("LIMITS", ["number", "column", "kept", "call"])], tf := [("_law_numbers_right", none), ("_law_pair_right", none)] }
def hx : List Hk.Hx := [⟨0, 38, "call", "BadForm"⟩]
theorem hbn : ∀ d ∈ R.ds, BindP d := List.forall_mem_cons.mpr ⟨b0, List.forall_mem_cons.mpr ⟨b1, List.forall_mem_cons.mpr ⟨b2, List.forall_mem_cons.mpr ⟨b3, List.forall_mem_cons.mpr ⟨b4, List.forall_mem_cons.mpr ⟨b5, List.forall_mem_cons.mpr ⟨b6, List.forall_mem_cons.mpr ⟨b7, List.forall_mem_cons.mpr ⟨b8, List.forall_mem_cons.mpr ⟨b9, List.forall_mem_cons.mpr ⟨b10, List.forall_mem_cons.mpr ⟨b11, List.forall_mem_cons.mpr ⟨b12, List.forall_mem_cons.mpr ⟨b13, List.forall_mem_cons.mpr ⟨b14, List.forall_mem_cons.mpr ⟨b15, List.forall_mem_cons.mpr ⟨b16, List.forall_mem_cons.mpr ⟨b17, List.forall_mem_cons.mpr ⟨b18, List.forall_mem_cons.mpr ⟨b19, List.forall_mem_cons.mpr ⟨b20, List.forall_mem_cons.mpr ⟨b21, List.forall_mem_cons.mpr ⟨b22, List.forall_mem_cons.mpr ⟨b23, List.forall_mem_cons.mpr ⟨b24, List.forall_mem_cons.mpr ⟨b25, List.forall_mem_cons.mpr ⟨b26, List.forall_mem_cons.mpr ⟨b27, List.forall_mem_cons.mpr ⟨b28, List.forall_mem_cons.mpr ⟨b29, List.forall_mem_cons.mpr ⟨b30, List.forall_mem_cons.mpr ⟨b31, List.forall_mem_cons.mpr ⟨b32, List.forall_mem_cons.mpr ⟨b33, List.forall_mem_cons.mpr ⟨b34, List.forall_mem_cons.mpr ⟨b35, List.forall_mem_cons.mpr ⟨b36, List.forall_mem_cons.mpr ⟨b37, List.forall_mem_cons.mpr ⟨b38, fun _ z => nomatch z⟩⟩⟩⟩⟩⟩⟩⟩⟩⟩⟩⟩⟩⟩⟩⟩⟩⟩⟩⟩⟩⟩⟩⟩⟩⟩⟩⟩⟩⟩⟩⟩⟩⟩⟩⟩⟩⟩⟩
theorem chk : ∀ (f : Nat) (d : Df), G.defs[f]? = some d → ∃ dd, R.ds[f]? = some dd ∧ Hk.Chk cc dd d := by
  intro f d q
  match f, q with
  | 0, q => cases q; exact ⟨_, rfl, ⟨ok0, rfl, rfl⟩⟩
  | 1, q => cases q; exact ⟨_, rfl, ⟨ok1, rfl, rfl⟩⟩
  | 2, q => cases q; exact ⟨_, rfl, ⟨ok2, rfl, rfl⟩⟩
  | 3, q => cases q; exact ⟨_, rfl, ⟨ok3, rfl, rfl⟩⟩
  | 4, q => cases q; exact ⟨_, rfl, ⟨ok4, rfl, rfl⟩⟩
  | 5, q => cases q; exact ⟨_, rfl, ⟨ok5, rfl, rfl⟩⟩
  | 6, q => cases q; exact ⟨_, rfl, ⟨ok6, rfl, rfl⟩⟩
  | 7, q => cases q; exact ⟨_, rfl, ⟨ok7, rfl, rfl⟩⟩
  | 8, q => cases q; exact ⟨_, rfl, ⟨ok8, rfl, rfl⟩⟩
  | 9, q => cases q; exact ⟨_, rfl, ⟨ok9, rfl, rfl⟩⟩
  | 10, q => cases q; exact ⟨_, rfl, ⟨ok10, rfl, rfl⟩⟩
  | 11, q => cases q; exact ⟨_, rfl, ⟨ok11, rfl, rfl⟩⟩
  | 12, q => cases q; exact ⟨_, rfl, ⟨ok12, rfl, rfl⟩⟩
  | 13, q => cases q; exact ⟨_, rfl, ⟨ok13, rfl, rfl⟩⟩
  | 14, q => cases q; exact ⟨_, rfl, ⟨ok14, rfl, rfl⟩⟩
  | 15, q => cases q; exact ⟨_, rfl, ⟨ok15, rfl, rfl⟩⟩
  | 16, q => cases q; exact ⟨_, rfl, ⟨ok16, rfl, rfl⟩⟩
  | 17, q => cases q; exact ⟨_, rfl, ⟨ok17, rfl, rfl⟩⟩
  | 18, q => cases q; exact ⟨_, rfl, ⟨ok18, rfl, rfl⟩⟩
  | 19, q => cases q; exact ⟨_, rfl, ⟨ok19, rfl, rfl⟩⟩
  | 20, q => cases q; exact ⟨_, rfl, ⟨ok20, rfl, rfl⟩⟩
  | 21, q => cases q; exact ⟨_, rfl, ⟨ok21, rfl, rfl⟩⟩
  | 22, q => cases q; exact ⟨_, rfl, ⟨ok22, rfl, rfl⟩⟩
  | 23, q => cases q; exact ⟨_, rfl, ⟨ok23, rfl, rfl⟩⟩
  | 24, q => cases q; exact ⟨_, rfl, ⟨ok24, rfl, rfl⟩⟩
  | 25, q => cases q; exact ⟨_, rfl, ⟨ok25, rfl, rfl⟩⟩
  | 26, q => cases q; exact ⟨_, rfl, ⟨ok26, rfl, rfl⟩⟩
  | 27, q => cases q; exact ⟨_, rfl, ⟨ok27, rfl, rfl⟩⟩
  | 28, q => cases q; exact ⟨_, rfl, ⟨ok28, rfl, rfl⟩⟩
  | 29, q => cases q; exact ⟨_, rfl, ⟨ok29, rfl, rfl⟩⟩
  | 30, q => cases q; exact ⟨_, rfl, ⟨ok30, rfl, rfl⟩⟩
  | 31, q => cases q; exact ⟨_, rfl, ⟨ok31, rfl, rfl⟩⟩
  | 32, q => cases q; exact ⟨_, rfl, ⟨ok32, rfl, rfl⟩⟩
  | 33, q => cases q; exact ⟨_, rfl, ⟨ok33, rfl, rfl⟩⟩
  | 34, q => cases q; exact ⟨_, rfl, ⟨ok34, rfl, rfl⟩⟩
  | 35, q => cases q; exact ⟨_, rfl, ⟨ok35, rfl, rfl⟩⟩
  | 36, q => cases q; exact ⟨_, rfl, ⟨ok36, rfl, rfl⟩⟩
  | 37, q => cases q; exact ⟨_, rfl, ⟨ok37, rfl, rfl⟩⟩
  | n + 38, q => cases q
def loose : List Str := ["MeaningError", "BadForm", "BadNumber", "is_whole", "is_below", "MOST_FORMS", "SHAPES", "LIMITS", "has_shape", "forms_in", "numbers_after", "Form", "check_limit", "tree_of", "_law_number", "_law_tree", "_law_any_tree", "_law_in", "_law_heard", "_law_due", "_law_one_right", "_law_numbers_right", "_law_pair_right"]
-- law: statement 28, def 37
end K01
end
section
set_option Elab.async false
set_option linter.all false
set_option maxRecDepth 100000
set_option maxHeartbeats 0
open PySem PySem.Spec PyProof.Rows L2 Dv
namespace K01
theorem hsc : ∀ d ∈ R.ds, FnScope d.N d.ps (defScope d.st) := sc_all (by decide +kernel)
theorem lmo : ∀ d ∈ R.ds, d.lm = true → ∃ x, d.pl = .fn x ∧ d.qual = x ∧ (x, none) ∈ R.tf := by
  have : (R.ds.all fun d => !d.lm || (match d.pl with | .fn x => decide (d.qual = x) && R.tf.contains (x, none) | _ => false)) = true := by decide +kernel
  intro d hd hl
  have := List.all_eq_true.mp this d hd
  rw [hl] at this
  split at this
  · rename_i x q
    simp only [Bool.not_true, Bool.false_or, Bool.and_eq_true] at this
    exact ⟨x, q, of_decide_eq_true this.1, List.contains_iff_mem.mp this.2⟩
  · cases this
abbrev RR : PySem.W.OpenRow := PySem.W.OpenLaw.row PySem.Challenge.rw_keptmeanings_k01_whole_forms
abbrev ex : Hk.Fg → Bool := Hk.exB G cc R hx
abbrev hk : PySem.W.Hook := Hk.hook 6 R ex
def ob (s : PySem.W.SharedT) : Hk.Al := Hk.obs 6 R ex (HandSHeadRun.getT s)
theorem ob_eq (s : PySem.W.SharedT) : ob s = hk.obs s.abs := Hk.obs_eq (HandSHeadRun.getT_eq s)
theorem hdr0 (w : World) : HandSHeadRun.RunEq RR (PySem.W.view RR.prog [28]) hk ob 4000 loose (w.withFollow "special-get-raises" false) := by
  intro os
  kernel_rfl
theorem hdr1 (w : World) : HandSHeadRun.RunEq RR (PySem.W.view RR.prog [28]) hk ob 4000 loose (w.withFollow "special-get-raises" true) := by
  intro os
  kernel_rfl
theorem hdr (w : World) : HandSHeadRun.RunEq RR (PySem.W.view RR.prog [28]) hk ob 4000 loose w := PySem.W.byRow2 "special-get-raises" (P := fun w => HandSHeadRun.RunEq RR (PySem.W.view RR.prog [28]) hk ob 4000 loose w) hdr0 hdr1 w
end K01
end
section
set_option Elab.async false
set_option linter.all false
set_option maxRecDepth 100000
set_option maxHeartbeats 0
open PySem PySem.W PySem.Calls PyProof.Rows
theorem K01.of_law (lw : ∀ ns : List Int, ns.length ≤ 63 → ∃ kd, Dv.evS K01.G (Dv.evC K01.G 100 20).1 (Dv.evC K01.G 100 20).2 100 K01.d37.body (Dv.envOf K01.d37.np K01.d37.ns [.scr ns]) = .rt (.bl true) kd) : PySem.Challenge.rw_keptmeanings_k01_whole_forms.Holds := by
  have lw' := lw
  w_on; o_law
  refine HandSHeadRun.head_any (r := OpenLaw.row PySem.Challenge.rw_keptmeanings_k01_whole_forms) (q := view (OpenLaw.row PySem.Challenge.rw_keptmeanings_k01_whole_forms).prog [28]) (H := K01.hk) (ob := K01.ob) (M := 4000) (loose := K01.loose) (d := HandSHeadRun.topDef (OpenLaw.row PySem.Challenge.rw_keptmeanings_k01_whole_forms).prog 28) (kwd := []) K01.ob_eq
    (by kernel_rfl) (fun s => by kernel_rfl) K01.hdr (by kernel_rfl) (by kernel_rfl) (by kernel_rfl) (by rfl) (by first | assumption | decide +kernel) (by decide +kernel) ⟨rfl, rfl, rfl, rfl, rfl, by decide +kernel⟩ ?hw ?hc
  case hw => w_witness2
  case hc =>
    refine LamX.walk_ofTsE (l := PySem.Challenge.rw_keptmeanings_k01_whole_forms) (n := 63) (k := 84) (x := "script") (CX := fun w => L2.CX PySem.Challenge.rw_keptmeanings_k01_whole_forms.prog w) rfl (by decide) (by kernel_rfl) ⟨rfl, by decide, by decide⟩ ?F (fun w H s e s' h => ?X)
    case X =>
      obtain ⟨_, _, _, _, _, _, _, _, _, _, _, _, z⟩ := h
      exact z
    case F =>
      intro w mg fa h Y G hmg0
      obtain ⟨K, KX, c⟩ := Y
      have hmg : mg ("law" : PySem.Str) = some (.ref fa) := by
        have e : (HandSHeadRun.topDef (OpenLaw.row PySem.Challenge.rw_keptmeanings_k01_whole_forms).prog 28).name = ("law" : PySem.Str) := by kernel_rfl
        rw [← e]
        exact hmg0
      exact ⟨K, KX, Dv.Hk.law_at (G := K01.G) (c := K01.cc) (R := K01.R) (hx := K01.hx) (n := 20) (wf := 100) (li := 37) (dl := K01.e37) (d := K01.d37) c KX G hmg K01.hsc (fun d hd fd F => K01.hbn d hd K fd F) K01.chk K01.lmo rfl rfl rfl rfl rfl (fun fd F s u => L2.FunD.bindsA (ps := ["script"]) F (fun _ _ _ _ _ _ us hl => match us, hl with | [_], _ => rfl) s [u] rfl) lw'⟩
end
section
set_option Elab.async false
set_option linter.all false
set_option maxRecDepth 100000
open PySem Dv
namespace K01
abbrev F (n : Nat) := (evC G 100 n).1
abbrev Mk (n : Nat) := (evC G 100 n).2
/-- a def called -/
def run (n : Nat) (d : Df) (ds : List D) : Res (D × Kd) := match evS G (F n) (Mk n) 100 d.body (envOf d.np d.ns ds) with
  | .rt x k => .ok (x, k)
  | .nx _ => .ok (.non, .frz)
  | .er x => .er x
  | _ => .bad
theorem F0 {n : Nat} {a : D} : F (n + 1) 0 [a] = run n d0 [a] := rfl
theorem F1 {n : Nat} {a b : D} : F (n + 1) 1 [a, b] = run n d1 [a, b] := rfl
theorem whole_int {n : Nat} {i : Int} : F (n + 1) 0 [.int i] = .ok (.bl true, .frz) := rfl
theorem whole_bl {n : Nat} {b : Bool} : F (n + 1) 0 [.bl b] = .ok (.bl false, .frz) := rfl
theorem whole_str {n : Nat} {b : Str} : F (n + 1) 0 [.str b] = .ok (.bl false, .frz) := rfl
theorem below_int {n : Nat} {i k : Int} : F (n + 2) 1 [.int i, .int k] = .ok (.bl (decide (0 ≤ i) && decide (i < k)), .frz) := by
  rw [F1]
  unfold run d1
  simp only [evS, evE, envOf, getE, Res.bind, itemsOf, callB, whole_int, truth, cmpM, isIns, cmpD, ofO, flatD, nbor, List.map, List.replicate, List.append_nil, List.getElem?_cons_zero, List.getElem?_cons_succ, Out.of, List.cons_append, List.nil_append]
  by_cases h : 0 ≤ i <;> simp [h]
end K01
end
section
set_option Elab.async false
set_option linter.all false
set_option maxRecDepth 100000
open PySem Dv
namespace K01
inductive T where
  | lf (b : Bool)
  | num (n : Nat)
  | col (n : Nat)
  | kep (n : Nat)
  | cal (k : Nat) (a : T)
  | bin (o : Fin 4) (a b : T)
  | whn (t a b : T)
def binW : Fin 4 → Str
  | 0 => "sum" | 1 => "less" | 2 => "times" | 3 => "same"
def word : T → Str
  | .lf true => "given" | .lf false => "setting" | .num _ => "number" | .col _ => "column" | .kep _ => "kept" | .cal _ _ => "call" | .bin o _ _ => binW o | .whn _ _ _ => "when"
def toD : T → D
  | .lf true => .tup [.str "given"]
  | .lf false => .tup [.str "setting"]
  | .num n => .tup [.str "number", .int n]
  | .col n => .tup [.str "column", .int n]
  | .kep n => .tup [.str "kept", .int n]
  | .cal k a => .tup [.str "call", .int k, toD a]
  | .bin o a b => .tup [.str (binW o), toD a, toD b]
  | .whn t a b => .tup [.str "when", toD t, toD a, toD b]
def ok : T → Bool
  | .lf _ => true
  | .num n => decide (n < 3)
  | .col n => decide (n < 2)
  | .kep n => decide (n < 2)
  | .cal k a => decide (k < 3) && ok a
  | .bin _ a b => ok a && ok b
  | .whn t a b => ok t && ok a && ok b
def kids : T → List T
  | .cal _ a => [a]
  | .bin _ a b => [a, b]
  | .whn t a b => [t, a, b]
  | _ => []
def size : T → Nat
  | .cal _ a => 1 + size a
  | .bin _ a b => 1 + size a + size b
  | .whn t a b => 1 + size t + size a + size b
  | _ => 1
def sub : T → List T
  | .cal k a => .cal k a :: sub a
  | .bin o a b => .bin o a b :: (sub a ++ sub b)
  | .whn t a b => .whn t a b :: (sub t ++ sub a ++ sub b)
  | t => [t]
theorem F2 {n : Nat} {a : D} : F (n + 1) 2 [a] = run n d2 [a] := rfl
/-- what a returned expression comes to -/
def back (r : Res (D × Kd)) : Res (D × Kd) := match Out.of r fun d k => if k = .bor then .bad else .rt d k with
  | .rt x k => .ok (x, k)
  | .nx _ => .ok (.non, .frz)
  | .er x => .er x
  | _ => .bad
theorem back_frz {d : D} : back (.ok (d, .frz)) = .ok (d, .frz) := rfl
theorem below_ok {n i : Nat} {k : Int} (h : (i : Int) < k) : F (n + 2) 1 [.int i, .int k] = .ok (.bl true, .frz) := by
  rw [below_int]
  have h1 : (0 : Int) ≤ i := Int.natCast_nonneg i
  simp [h, h1]
theorem shape_ok {n : Nat} : ∀ {t : T}, ok t = true → F (n + 3) 2 [toD t] = .ok (.bl true, .frz)
  | .lf true, _ => rfl
  | .lf false, _ => rfl
  | .num i, h => by
    have e : F (n + 3) 2 [toD (.num i)] = back (F (n + 2) 1 [.int i, .int 3]) := rfl
    rw [e, below_ok (by have := of_decide_eq_true h; omega)]
    rfl
  | .col i, h => by
    have e : F (n + 3) 2 [toD (.col i)] = back (F (n + 2) 1 [.int i, .int 2]) := rfl
    rw [e, below_ok (by have := of_decide_eq_true h; omega)]
    rfl
  | .kep i, h => by
    have e : F (n + 3) 2 [toD (.kep i)] = back (F (n + 2) 1 [.int i, .int 2]) := rfl
    rw [e, below_ok (by have := of_decide_eq_true h; omega)]
    rfl
  | .cal i a, h => by
    have e : F (n + 3) 2 [toD (.cal i a)] = back (F (n + 2) 1 [.int i, .int 3]) := rfl
    rw [e, below_ok (by have := of_decide_eq_true (Bool.and_eq_true_iff.mp h).1; omega)]
    rfl
  | .bin 0 a b, _ => rfl
  | .bin 1 a b, _ => rfl
  | .bin 2 a b, _ => rfl
  | .bin 3 a b, _ => rfl
  | .whn t a b, _ => rfl
end K01
end
section
set_option Elab.async false
set_option linter.all false
set_option maxRecDepth 100000
open PySem Dv L2
namespace K01
theorem atI_nat {α : Type} {l : List α} {i : Nat} {x : α} (h : l[i]? = some x) : atI l (i : Int) = some x := by
  have hl := (List.getElem?_eq_some_iff.mp h).1
  unfold atI ixN
  have h1 : ¬ ((i : Int) < 0) := by omega
  simp [h1, hl]
  exact (List.getElem?_eq_some_iff.mp h).2
def fT : M := .cmp .lt (.slot 2) (.blt .len (.cons (.slot 1) .nil))
def fX : M := .slL (.slot 3) (.ix (.ixg "SHAPES" (.ix (.slot 3) (.cst (.int 0)))) (.cst (.int 1)))
def fB : S := (.seq (.asg 3 (.ix (.slot 1) (.slot 2))) (.seq (.ite (.or (.cmp .gt (.blt .len (.cons (.slot 1) .nil)) (.gc "MOST_FORMS")) (.not (.call 2 (.cons (.slot 3) .nil)))) (.seq (.ret (.cst .non)) .done) .done) (.seq (.ext 1 fX) (.seq (.aug 2 .add (.cst (.int 1))) .done))))
theorem d3_is : d3.body = .seq (.asg 1 (.lst (.cons (.slot 0) .nil))) (.seq (.asg 2 (.cst (.int 0))) (.seq (.whl fT fB) (.seq (.seq (.frz [1]) (.ret (.slot 1))) .done))) := rfl
def en (d : D) (l : List D) (i : Nat) (c : Option (D × Bool)) : Dv.Env := [some (d, false), some (.lst l, true), some (.int i, false), c]
section
variable {n : Nat} {d : D} {c : Option (D × Bool)}
theorem fT_ev {l : List D} {i : Nat} : evE G (F (n + 3)) (Mk (n + 3)) fT (en d l i c) = .ok (.bl (decide ((i : Int) < (l.length : Int))), .frz) := rfl
theorem fX_ev {l : List D} {i : Nat} : ∀ {x : T}, evE G (F (n + 3)) (Mk (n + 3)) fX (en d l i (some (toD x, false))) = .ok (.tup ((kids x).map toD), .frz)
  | .lf true => rfl
  | .lf false => rfl
  | .num i => rfl
  | .col i => rfl
  | .kep i => rfl
  | .cal i a => rfl
  | .bin 0 a b => rfl
  | .bin 1 a b => rfl
  | .bin 2 a b => rfl
  | .bin 3 a b => rfl
  | .whn t a b => rfl
theorem fB_ev {l : List T} {i : Nat} {x : T} (h : l[i]? = some x) (hx : ok x = true) : evS G (F (n + 3)) (Mk (n + 3)) 100 fB (en d (l.map toD) i c) = if 12 < l.length then .rt .non .frz else .nx (en d ((l ++ kids x).map toD) (i + 1) (some (toD x, false))) := by
  have h1 : atI (l.map toD) (i : Int) = some (toD x) := atI_nat (by rw [List.getElem?_map, h]; rfl)
  have e1 : evE G (F (n + 3)) (Mk (n + 3)) (.ix (.slot 1) (.slot 2)) (en d (l.map toD) i c) = .ok (toD x, .frz) := by
    show (match ixD (.lst (l.map toD)) (.int i) with
      | some d => Res.ok (d, Kd.frz)
      | none => _) = _
    have : ixD (.lst (l.map toD)) (.int i) = some (toD x) := h1
    rw [this]
  have hk : (toD x, Kd.frz).2 = .frz := rfl
  have hins : insFr (toD x) .frz = false := by cases x <;> first | rfl | (rename_i b; cases b <;> rfl)
  have e2 : evS G (F (n + 3)) (Mk (n + 3)) 100 (.asg 3 (.ix (.slot 1) (.slot 2))) (en d (l.map toD) i c) = .nx (en d (l.map toD) i (some (toD x, false))) := by
    unfold evS
    rw [e1]
    show (if Kd.frz = .bor ∨ insFr (toD x) .frz = true then Out.bad else _) = _
    rw [hins]
    rfl
  have e3 : evE G (F (n + 3)) (Mk (n + 3)) (.or (.cmp .gt (.blt .len (.cons (.slot 1) .nil)) (.gc "MOST_FORMS")) (.not (.call 2 (.cons (.slot 3) .nil)))) (en d (l.map toD) i (some (toD x, false))) = .ok (.bl (decide (12 < l.length)), .frz) := by
    have a1 : evE G (F (n + 3)) (Mk (n + 3)) (.cmp .gt (.blt .len (.cons (.slot 1) .nil)) (.gc "MOST_FORMS")) (en d (l.map toD) i (some (toD x, false))) = .ok (.bl (decide ((12 : Int) < ((l.map toD).length : Int))), .frz) := rfl
    have a2 : evE G (F (n + 3)) (Mk (n + 3)) (.not (.call 2 (.cons (.slot 3) .nil))) (en d (l.map toD) i (some (toD x, false))) = .ok (.bl false, .frz) := by
      have b1 : evE G (F (n + 3)) (Mk (n + 3)) (.call 2 (.cons (.slot 3) .nil)) (en d (l.map toD) i (some (toD x, false))) = F (n + 3) 2 [toD x] := rfl
      unfold evE
      rw [b1, shape_ok hx]
      rfl
    unfold evE
    rw [a1, a2]
    rw [List.length_map]
    by_cases z : 12 < l.length
    · rw [decide_eq_true z, decide_eq_true (show (12 : Int) < (l.length : Int) by omega)]
      rfl
    · rw [decide_eq_false z, decide_eq_false (show ¬ (12 : Int) < (l.length : Int) by omega)]
      rfl
  unfold fB
  unfold evS
  rw [e2]
  dsimp only
  unfold evS
  by_cases z : 12 < l.length
  · rw [if_pos z]
    have : evS G (F (n + 3)) (Mk (n + 3)) 100 (.ite (.or (.cmp .gt (.blt .len (.cons (.slot 1) .nil)) (.gc "MOST_FORMS")) (.not (.call 2 (.cons (.slot 3) .nil)))) (.seq (.ret (.cst .non)) .done) .done) (en d (l.map toD) i (some (toD x, false))) = .rt .non .frz := by
      unfold evS
      rw [e3, decide_eq_true z]
      rfl
    rw [this]
  · rw [if_neg z]
    have : evS G (F (n + 3)) (Mk (n + 3)) 100 (.ite (.or (.cmp .gt (.blt .len (.cons (.slot 1) .nil)) (.gc "MOST_FORMS")) (.not (.call 2 (.cons (.slot 3) .nil)))) (.seq (.ret (.cst .non)) .done) .done) (en d (l.map toD) i (some (toD x, false))) = .nx (en d (l.map toD) i (some (toD x, false))) := by
      unfold evS
      rw [e3, decide_eq_false z]
      rfl
    rw [this]
    dsimp only
    have hlen : (kids x).length ≤ 3 := by cases x <;> simp [kids]
    have e4 : evS G (F (n + 3)) (Mk (n + 3)) 100 (.ext 1 fX) (en d (l.map toD) i (some (toD x, false))) = .nx (en d ((l ++ kids x).map toD) i (some (toD x, false))) := by
      have g1 : getE (en d (l.map toD) i (some (toD x, false))) 1 = some (.lst (l.map toD), true) := rfl
      unfold evS
      rw [g1]
      dsimp only
      rw [fX_ev]
      unfold Out.of
      dsimp only
      rw [if_neg (by decide), if_pos (by rw [List.length_map, List.length_map]; have : (16 : Nat) ≤ sizeLine := by decide
                                         omega), List.map_append]
      rfl
    unfold evS
    rw [e4]
    rfl
end
end K01
end
section
set_option Elab.async false
set_option linter.all false
set_option maxRecDepth 100000
open PySem Dv L2
namespace K01
theorem sub_kids : ∀ x : T, sub x = x :: (kids x).flatMap sub
  | .lf true => rfl
  | .lf false => rfl
  | .num i => rfl
  | .col i => rfl
  | .kep i => rfl
  | .cal i a => by simp [sub, kids]
  | .bin o a b => by simp [sub, kids]
  | .whn t a b => by simp [sub, kids]
theorem sub_len : ∀ x : T, (sub x).length = size x
  | .lf true => rfl
  | .lf false => rfl
  | .num i => rfl
  | .col i => rfl
  | .kep i => rfl
  | .cal i a => by simp [sub, size, sub_len a]; omega
  | .bin o a b => by simp [sub, size, sub_len a, sub_len b]; omega
  | .whn t a b => by simp [sub, size, sub_len a, sub_len b, sub_len t]; omega
theorem kids_ok : ∀ {x : T}, ok x = true → ∀ y ∈ kids x, ok y = true
  | .lf true, _, y, h => by cases h
  | .lf false, _, y, h => by cases h
  | .num i, _, y, h => by cases h
  | .col i, _, y, h => by cases h
  | .kep i, _, y, h => by cases h
  | .cal i a, h, y, m => by simp [ok, kids] at h m; simp [m, h]
  | .bin o a b, h, y, m => by simp [ok, kids] at h m; rcases m with rfl | rfl <;> simp [h]
  | .whn t a b, h, y, m => by simp [ok, kids] at h m; rcases m with rfl | rfl | rfl <;> simp [h]
theorem flat_len (l : List T) : l.length ≤ (l.flatMap sub).length := by
  induction l with
  | nil => exact Nat.le_refl _
  | cons x r ih =>
    rw [List.flatMap_cons, List.length_append, sub_kids x, List.length_cons, List.length_cons]
    omega
theorem whl_ev {n : Nat} {d : D} {t : T} : ∀ (k : Nat) (l : List T) (i : Nat) (c : Option (D × Bool)), i ≤ l.length → i ≤ 12 → 14 ≤ i + k → (∀ x ∈ l, ok x = true) → (l.take i ++ (l.drop i).flatMap sub).Perm (sub t) → (i = l.length → l.length ≤ 12) →
    (12 < size t ∧ whlL (evE G (F (n + 3)) (Mk (n + 3)) fT) (evS G (F (n + 3)) (Mk (n + 3)) 100 fB) k (en d (l.map toD) i c) = .rt .non .frz) ∨
    (size t ≤ 12 ∧ ∃ (l' : List T) (c' : Option (D × Bool)), l'.Perm (sub t) ∧ whlL (evE G (F (n + 3)) (Mk (n + 3)) fT) (evS G (F (n + 3)) (Mk (n + 3)) 100 fB) k (en d (l.map toD) i c) = .nx (en d (l'.map toD) l'.length c'))
  | 0, l, i, c, hi, hm, hk, _, p, he => absurd hk (by omega)
  | k + 1, l, i, c, hi, hm, hk, ho, p, he => by
    have e0 : ∀ b, decide ((i : Int) < ((l.map toD).length : Int)) = b → evE G (F (n + 3)) (Mk (n + 3)) fT (en d (l.map toD) i c) = .ok (.bl b, .frz) := fun b h => by rw [fT_ev, h]
    unfold whlL
    by_cases z : i < l.length
    · rw [e0 true (decide_eq_true (by rw [List.length_map]; omega))]
      have hx : l[i]? = some l[i] := List.getElem?_eq_getElem z
      have hmem : l[i] ∈ l := List.getElem_mem z
      have hd : l.drop i = l[i] :: l.drop (i + 1) := List.drop_eq_getElem_cons z
      unfold Out.of truth
      dsimp only
      rw [fB_ev hx (ho _ hmem)]
      by_cases w : 12 < l.length
      · rw [if_pos w]
        refine .inl ⟨?_, rfl⟩
        have h1 := p.length_eq
        rw [List.length_append, List.length_take, sub_len] at h1
        have h2 := flat_len (l.drop i)
        rw [List.length_drop] at h2
        have h3 : min i l.length = i := by omega
        omega
      · rw [if_neg w]
        dsimp only
        refine whl_ev k (l ++ kids l[i]) (i + 1) _ (by rw [List.length_append]; omega) (by omega) (by omega) (fun x m => ?_) ?_ ?_
        · rcases List.mem_append.mp m with m | m
          · exact ho x m
          · exact kids_ok (ho _ hmem) x m
        · refine List.Perm.trans ?_ p
          have t1 : (l ++ kids l[i]).take (i + 1) = l.take i ++ [l[i]] := by
            rw [List.take_append_of_le_length (by omega)]; exact List.take_succ_eq_append_getElem z
          have t2 : (l ++ kids l[i]).drop (i + 1) = l.drop (i + 1) ++ kids l[i] := List.drop_append_of_le_length (by omega)
          rw [t1, t2, hd, List.flatMap_cons, sub_kids l[i], List.flatMap_append, List.append_assoc]
          refine List.Perm.append_left _ ?_
          rw [List.singleton_append, List.cons_append]
          exact List.Perm.cons _ List.perm_append_comm
        · intro h
          rw [List.length_append] at h ⊢
          omega
    · rw [e0 false (decide_eq_false (by rw [List.length_map]; omega))]
      have hi' : i = l.length := by omega
      have p' : l.Perm (sub t) := by
        have := p
        rw [hi', List.take_length, List.drop_length] at this
        simpa using this
      have hs : size t ≤ 12 := by rw [← sub_len, ← p'.length_eq]; exact he hi'
      refine .inr ⟨hs, l, c, p', ?_⟩
      rw [hi']
      rfl
/-- how a def's text ends -/
def fin (o : Out) : Res (D × Kd) := match o with
  | .rt x k => .ok (x, k)
  | .nx _ => .ok (.non, .frz)
  | .er x => .er x
  | _ => .bad
theorem F3 {n : Nat} {t : T} (h : ok t = true) : (12 < size t ∧ F (n + 4) 3 [toD t] = .ok (.non, .frz)) ∨ (size t ≤ 12 ∧ ∃ l : List T, l.Perm (sub t) ∧ F (n + 4) 3 [toD t] = .ok (.lst (l.map toD), .frz)) := by
  have e : F (n + 4) 3 [toD t] = fin (match whlL (evE G (F (n + 3)) (Mk (n + 3)) fT) (evS G (F (n + 3)) (Mk (n + 3)) 100 fB) 100 (en (toD t) ([t].map toD) (0 : Nat) none) with
    | .nx e1 => evS G (F (n + 3)) (Mk (n + 3)) 100 (.seq (.seq (.frz [1]) (.ret (.slot 1))) .done) e1
    | o => o) := rfl
  rw [e]
  rcases whl_ev (n := n) (d := toD t) (t := t) 100 [t] 0 none (by simp) (by omega) (by omega) (fun x m => by rw [List.mem_singleton] at m; rw [m]; exact h) (by simp) (by simp) with ⟨h1, h2⟩ | ⟨h1, l, c, p, h2⟩
  · rw [h2]
    exact .inl ⟨h1, rfl⟩
  · rw [h2]
    exact .inr ⟨h1, l, p, rfl⟩
end K01
end
section
set_option Elab.async false
set_option linter.all false
set_option maxRecDepth 100000
open PySem Dv L2
namespace K01
def pT : T → PyData
  | .lf true => .tuple [.str "given"]
  | .lf false => .tuple [.str "setting"]
  | .num n => .tuple [.str "number", .int n]
  | .col n => .tuple [.str "column", .int n]
  | .kep n => .tuple [.str "kept", .int n]
  | .cal k a => .tuple [.str "call", .int k, pT a]
  | .bin o a b => .tuple [.str (binW o), pT a, pT b]
  | .whn t a b => .tuple [.str "when", pT t, pT a, pT b]
theorem toP_toD : ∀ t : T, toP (toD t) = some (pT t)
  | .lf true => rfl
  | .lf false => rfl
  | .num n => rfl
  | .col n => rfl
  | .kep n => rfl
  | .cal k a => by simp [toD, toP, toPs, toP_toD a, pT]
  | .bin o a b => by simp [toD, toP, toPs, toP_toD a, toP_toD b, pT]
  | .whn t a b => by simp [toD, toP, toPs, toP_toD a, toP_toD b, toP_toD t, pT]
theorem ws : PyData.strOk ("number" : Str) = true ∧ PyData.strOk ("column" : Str) = true ∧ PyData.strOk ("kept" : Str) = true ∧ PyData.strOk ("call" : Str) = true ∧ PyData.strOk ("when" : Str) = true ∧ ∀ o, PyData.strOk (binW o) = true := by decide +kernel
theorem lay_pT : ∀ t : T, (pT t).canLay0 = true
  | .lf true => by decide +kernel
  | .lf false => by decide +kernel
  | .num n => by simp [pT, PyData.canLay0, PyData.canLayAll0, ws]
  | .col n => by simp [pT, PyData.canLay0, PyData.canLayAll0, ws]
  | .kep n => by simp [pT, PyData.canLay0, PyData.canLayAll0, ws]
  | .cal k a => by simp [pT, PyData.canLay0, PyData.canLayAll0, ws, lay_pT a]
  | .bin o a b => by simp [pT, PyData.canLay0, PyData.canLayAll0, ws, lay_pT a, lay_pT b]
  | .whn t a b => by simp [pT, PyData.canLay0, PyData.canLayAll0, ws, lay_pT a, lay_pT b, lay_pT t]
theorem depth_pT : ∀ t : T, (pT t).depth ≤ size t + 1
  | .lf true => by decide +kernel
  | .lf false => by decide +kernel
  | .num n => by simp [pT, PyData.depth, PyData.depthAll, size]
  | .col n => by simp [pT, PyData.depth, PyData.depthAll, size]
  | .kep n => by simp [pT, PyData.depth, PyData.depthAll, size]
  | .cal k a => by have := depth_pT a; simp [pT, PyData.depth, PyData.depthAll, size]; omega
  | .bin o a b => by have := depth_pT a; have := depth_pT b; simp [pT, PyData.depth, PyData.depthAll, size]; omega
  | .whn t a b => by have := depth_pT a; have := depth_pT b; have := depth_pT t; simp [pT, PyData.depth, PyData.depthAll, size]; omega
theorem shaped_pT {t : T} (h : size t ≤ 60) : SeqAt.shaped (pT t) = true := by
  show (PyData.canLay0 (pT t) && decide (PyData.depth (pT t) ≤ 64)) = true
  have := depth_pT t
  rw [lay_pT, decide_eq_true (by omega)]
  rfl
theorem eqT {t u : T} (h : size t ≤ 60) (h' : size u ≤ 60) : eqD (toD t) (toD u) = some (PyData.eqv (pT t) (pT u)) := by
  unfold eqD
  rw [toP_toD, toP_toD]
  dsimp only
  rw [shaped_pT h, shaped_pT h']
  rfl
theorem eqT_self {t : T} (h : size t ≤ 60) : eqD (toD t) (toD t) = some true := by
  rw [eqT h h, SeqAt.eqv_refl _ (lay_pT t)]
/-- a form -/
def FI (t : T) : D := .ins 0 [("tree", toD t)]
def mkR (t : T) : Res D := if size t ≤ 12 then .ok (FI t) else .er (.ins 2 [])
def opR (t : T) : Res (D × Kd) := if size t ≤ 12 then .ok (FI t, .frz) else .er (.ins 2 [])
def dueD (t : T) : D := if size t ≤ 12 then toD t else .non
/-- how making ends -/
def finM (o : Out) : Res D := match o with
  | .nx e => match getE e 0 with
    | some (.ins c' l, true) => .ok (.ins c' l)
    | _ => .bad
  | .er x => .er x
  | _ => .bad
theorem MkT {n : Nat} {t : T} (h : ok t = true) : Mk (n + 5) 0 [toD t] = mkR t := by
  have e : Mk (n + 5) 0 [toD t] = finM (match Out.of ((evE G (F (n + 4)) (Mk (n + 4)) (.call 3 (.cons (.slot 1) .nil)) [some (.ins 0 [], true), some (toD t, false)]).bind fun x => (Res.ok (D.non, Kd.frz)).bind fun y => (cmpM G (F (n + 4)) .is (nbor x.2 y.2) x.1 y.1).bind fun b => .ok (.bl b, .frz)) (fun x _ => match truth x with
      | some true => evS G (F (n + 4)) (Mk (n + 4)) 100 (.seq (.raise 2) .done) [some (.ins 0 [], true), some (toD t, false)]
      | some false => evS G (F (n + 4)) (Mk (n + 4)) 100 .done [some (.ins 0 [], true), some (toD t, false)]
      | none => .bad) with
    | .nx e1 => evS G (F (n + 4)) (Mk (n + 4)) 100 (.seq (.setf "tree" (.slot 1)) .done) e1
    | o => o) := rfl
  have e2 : evE G (F (n + 4)) (Mk (n + 4)) (.call 3 (.cons (.slot 1) .nil)) [some (.ins 0 [], true), some (toD t, false)] = F (n + 4) 3 [toD t] := rfl
  rw [e, e2]
  unfold mkR
  rcases F3 (n := n) h with ⟨h1, h2⟩ | ⟨h1, l, p, h2⟩
  · rw [h2, if_neg (by omega)]
    rfl
  · rw [h2, if_pos h1]
    have : insFr (toD t) .frz = false := by cases t <;> first | rfl | (rename_i b; cases b <;> rfl)
    rfl
end K01
end
section
set_option Elab.async false
set_option linter.all false
set_option maxRecDepth 100000
open PySem Dv L2
namespace K01
/-! ### the operators -/
def bk (r : Res D) : Res (D × Kd) := back (r.bind fun d => .ok (d, .frz))
theorem bk_mkR (t : T) : bk (mkR t) = opR t := by
  unfold mkR opR
  by_cases h : size t ≤ 12
  · rw [if_pos h, if_pos h]; rfl
  · rw [if_neg h, if_neg h]; rfl
theorem fin_ret {cl : Nat → List D → Res (D × Kd)} {mk : Nat → List D → Res D} {m : M} {e : Dv.Env} : fin (evS G cl mk 100 (.seq (.ret m) .done) e) = back (evE G cl mk m e) := by
  unfold evS
  unfold evS
  generalize evE G cl mk m e = r
  cases r with
  | ok x =>
    unfold back
    unfold Out.of
    dsimp only
    by_cases h : x.2 = .bor
    · rw [if_pos h]; rfl
    · rw [if_neg h]; rfl
  | er x => rfl
  | bad => rfl
theorem seq_nx {cl : Nat → List D → Res (D × Kd)} {mk : Nat → List D → Res D} {s r : S} {e e1 : Dv.Env} (h : evS G cl mk 100 s e = .nx e1) : evS G cl mk 100 (.seq s r) e = evS G cl mk 100 r e1 := by
  show (match evS G cl mk 100 s e with
    | .nx e1 => evS G cl mk 100 r e1
    | o => o) = _
  rw [h]
theorem seq_rt {cl : Nat → List D → Res (D × Kd)} {mk : Nat → List D → Res D} {s r : S} {e : Dv.Env} {d : D} {k : Kd} (h : evS G cl mk 100 s e = .rt d k) : evS G cl mk 100 (.seq s r) e = .rt d k := by
  show (match evS G cl mk 100 s e with
    | .nx e1 => evS G cl mk 100 r e1
    | o => o) = _
  rw [h]
theorem fin_ex {cl : Nat → List D → Res (D × Kd)} {mk : Nat → List D → Res D} {m : M} {s : S} {e : Dv.Env} {x : D × Kd} (h : evE G cl mk m e = .ok x) : evS G cl mk 100 (.seq (.ex m) s) e = evS G cl mk 100 s e := by
  have : evS G cl mk 100 (.ex m) e = .nx e := by unfold evS; rw [h]; rfl
  exact seq_nx this
theorem Fd {n f : Nat} {d : Df} {ds : List D} (h : G.defs[f]? = some d) (hl : ds.length = d.np) : F (n + 1) f ds = fin (evS G (F n) (Mk n) 100 d.body (envOf d.np d.ns ds)) := by
  show (match G.defs[f]? with | some d => if ds.length = d.np then fin (evS G (F n) (Mk n) 100 d.body (envOf d.np d.ns ds)) else .bad | none => .bad) = _
  rw [h]
  dsimp only
  rw [if_pos hl]
/-- a def that makes a form and returns it -/
theorem Fmake {n f : Nat} {d : Df} {ds : List D} {m : M} {e : Dv.Env} {t : T} (h : G.defs[f]? = some d) (hl : ds.length = d.np) (hb : d.body = .seq (.ret m) .done) (he : envOf d.np d.ns ds = e) (hm : evE G (F (n + 5)) (Mk (n + 5)) m e = (Mk (n + 5) 0 [toD t]).bind fun d => .ok (d, .frz)) (ht : ok t = true) : F (n + 6) f ds = opR t := by
  rw [Fd h hl, hb, he, fin_ret, hm, MkT ht]
  exact bk_mkR t
theorem Fchk {n f : Nat} {d : Df} {ds : List D} {m m' : M} {e : Dv.Env} {t : T} {x : D × Kd} (h : G.defs[f]? = some d) (hl : ds.length = d.np) (hb : d.body = .seq (.ex m') (.seq (.ret m) .done)) (he : envOf d.np d.ns ds = e) (hx : evE G (F (n + 5)) (Mk (n + 5)) m' e = .ok x) (hm : evE G (F (n + 5)) (Mk (n + 5)) m e = (Mk (n + 5) 0 [toD t]).bind fun d => .ok (d, .frz)) (ht : ok t = true) : F (n + 6) f ds = opR t := by
  rw [Fd h hl, hb, he, fin_ex hx, fin_ret, hm, MkT ht]
  exact bk_mkR t
section
variable {n : Nat} {t u v : T}
theorem F28 : F (n + 1) 28 [FI t] = .ok (toD t, .frz) := rfl
theorem F28i {k : Nat} : F (n + 1) 28 [.int k] = .ok (toD (.num k), .frz) := rfl
theorem okB (o : Fin 4) (h : ok t = true) (h' : ok u = true) : ok (.bin o t u) = true := by simp [ok, h, h']
theorem okw (h : ok t = true) (h' : ok u = true) (h'' : ok v = true) : ok (.whn t u v) = true := by simp [ok, h, h', h'']
theorem F17 (h : ok (.bin 0 t u) = true) : F (n + 6) 17 [FI t, FI u] = opR (.bin 0 t u) := by
  refine Fmake (d := d17) rfl rfl rfl rfl ?_ h
  kernel_rfl
theorem F17i {k : Nat} (h : ok (.bin 0 t (.num k)) = true) : F (n + 6) 17 [FI t, .int k] = opR (.bin 0 t (.num k)) := by
  refine Fmake (d := d17) rfl rfl rfl rfl ?_ h
  kernel_rfl
theorem F18i {k : Nat} (h : ok (.bin 0 (.num k) t) = true) : F (n + 6) 18 [FI t, .int k] = opR (.bin 0 (.num k) t) := by
  refine Fmake (d := d18) rfl rfl rfl rfl ?_ h
  kernel_rfl
theorem F19 (h : ok (.bin 1 t u) = true) : F (n + 6) 19 [FI t, FI u] = opR (.bin 1 t u) := by
  refine Fmake (d := d19) rfl rfl rfl rfl ?_ h
  kernel_rfl
theorem F19i {k : Nat} (h : ok (.bin 1 t (.num k)) = true) : F (n + 6) 19 [FI t, .int k] = opR (.bin 1 t (.num k)) := by
  refine Fmake (d := d19) rfl rfl rfl rfl ?_ h
  kernel_rfl
theorem F20i {k : Nat} (h : ok (.bin 1 (.num k) t) = true) : F (n + 6) 20 [FI t, .int k] = opR (.bin 1 (.num k) t) := by
  refine Fmake (d := d20) rfl rfl rfl rfl ?_ h
  kernel_rfl
theorem F21 (h : ok (.bin 2 t u) = true) : F (n + 6) 21 [FI t, FI u] = opR (.bin 2 t u) := by
  refine Fmake (d := d21) rfl rfl rfl rfl ?_ h
  kernel_rfl
theorem F21i {k : Nat} (h : ok (.bin 2 t (.num k)) = true) : F (n + 6) 21 [FI t, .int k] = opR (.bin 2 t (.num k)) := by
  refine Fmake (d := d21) rfl rfl rfl rfl ?_ h
  kernel_rfl
theorem F22i {k : Nat} (h : ok (.bin 2 (.num k) t) = true) : F (n + 6) 22 [FI t, .int k] = opR (.bin 2 (.num k) t) := by
  refine Fmake (d := d22) rfl rfl rfl rfl ?_ h
  kernel_rfl
theorem F14 (h : ok (.bin 3 t u) = true) : F (n + 6) 14 [FI t, FI u] = opR (.bin 3 t u) := by
  refine Fmake (d := d14) rfl rfl rfl rfl ?_ h
  kernel_rfl
theorem F14i {k : Nat} (h : ok (.bin 3 t (.num k)) = true) : F (n + 6) 14 [FI t, .int k] = opR (.bin 3 t (.num k)) := by
  refine Fmake (d := d14) rfl rfl rfl rfl ?_ h
  kernel_rfl
theorem F15 (h : ok (.whn t u v) = true) : F (n + 6) 15 [FI t, FI u, FI v] = opR (.whn t u v) := by
  refine Fmake (d := d15) rfl rfl rfl rfl ?_ h
  kernel_rfl
theorem F15i {k : Nat} (h : ok (.whn t (.num k) v) = true) : F (n + 6) 15 [FI t, .int k, FI v] = opR (.whn t (.num k) v) := by
  refine Fmake (d := d15) rfl rfl rfl rfl ?_ h
  kernel_rfl
theorem F15j {k : Nat} (h : ok (.whn t u (.num k)) = true) : F (n + 6) 15 [FI t, FI u, .int k] = opR (.whn t u (.num k)) := by
  refine Fmake (d := d15) rfl rfl rfl rfl ?_ h
  kernel_rfl
theorem F16 {k : Nat} (h : ok (.cal k t) = true) : F (n + 6) 16 [FI t, .int k] = opR (.cal k t) := match k, h, (of_decide_eq_true (Bool.and_eq_true_iff.mp h).1 : k < 3) with
  | 0, h, _ => by
    refine Fchk (x := (.non, .frz)) (d := d16) rfl rfl rfl rfl ?_ ?_ h <;> kernel_rfl
  | 1, h, _ => by
    refine Fchk (x := (.non, .frz)) (d := d16) rfl rfl rfl rfl ?_ ?_ h <;> kernel_rfl
  | 2, h, _ => by
    refine Fchk (x := (.non, .frz)) (d := d16) rfl rfl rfl rfl ?_ ?_ h <;> kernel_rfl
theorem F23 (h : ok t = true) : F (n + 7) 23 [FI t] = opR (.bin 1 (.num 0) t) := by
  have e : evE G (F (n + 6)) (Mk (n + 6)) (.bin .sub (.cst (.int 0)) (.slot 0)) [some (FI t, false)] = F (n + 6) 20 [FI t, .int (0 : Nat)] := by kernel_rfl
  rw [Fd (d := d23) rfl rfl, show d23.body = .seq (.ret (.bin .sub (.cst (.int 0)) (.slot 0))) .done from rfl, show envOf d23.np d23.ns [FI t] = [some (FI t, false)] from rfl, fin_ret, e, F20i (okB 1 rfl h)]
  unfold opR
  by_cases h : size (.bin 1 (.num 0) t) ≤ 12
  · rw [if_pos h]; rfl
  · rw [if_neg h]; rfl
theorem F8 {i : Nat} (h : i < 2) : F (n + 6) 8 [.cl 0, .int i] = .ok (FI (.kep i), .frz) := match i, h with
  | 0, _ => by
    refine Fchk (t := .kep 0) (x := (.non, .frz)) (d := d8) rfl rfl rfl rfl ?_ ?_ rfl <;> kernel_rfl
  | 1, _ => by
    refine Fchk (t := .kep 1) (x := (.non, .frz)) (d := d8) rfl rfl rfl rfl ?_ ?_ rfl <;> kernel_rfl
theorem F7 {i : Nat} (h : i < 2) : F (n + 6) 7 [.cl 0, .int i] = .ok (FI (.col i), .frz) := match i, h with
  | 0, _ => by
    refine Fchk (t := .col 0) (x := (.non, .frz)) (d := d7) rfl rfl rfl rfl ?_ ?_ rfl <;> kernel_rfl
  | 1, _ => by
    refine Fchk (t := .col 1) (x := (.non, .frz)) (d := d7) rfl rfl rfl rfl ?_ ?_ rfl <;> kernel_rfl
theorem F6 {i : Nat} (h : i < 3) : F (n + 6) 6 [.cl 0, .int i] = .ok (FI (.num i), .frz) := match i, h with
  | 0, _ => by
    refine Fchk (t := .num 0) (x := (.non, .frz)) (d := d6) rfl rfl rfl rfl ?_ ?_ rfl <;> kernel_rfl
  | 1, _ => by
    refine Fchk (t := .num 1) (x := (.non, .frz)) (d := d6) rfl rfl rfl rfl ?_ ?_ rfl <;> kernel_rfl
  | 2, _ => by
    refine Fchk (t := .num 2) (x := (.non, .frz)) (d := d6) rfl rfl rfl rfl ?_ ?_ rfl <;> kernel_rfl
theorem F9 : F (n + 6) 9 [] = .ok (FI (.lf true), .frz) := by
  refine Fmake (t := .lf true) (d := d9) rfl rfl rfl rfl ?_ rfl
  kernel_rfl
theorem F10 : F (n + 6) 10 [] = .ok (FI (.lf false), .frz) := by
  refine Fmake (t := .lf false) (d := d10) rfl rfl rfl rfl ?_ rfl
  kernel_rfl
/-- what is heard -/
theorem heard {m : M} {e : Dv.Env} (h : evE G (F n) (Mk n) m e = opR t) : evE G (F n) (Mk n) (.lamc 0 m) e = .ok (dueD t, .frz) := by
  have g : G.hds[0]? = some ⟨some "tree", [([2], .non)]⟩ := rfl
  unfold evE
  rw [g]
  dsimp only
  rw [h]
  unfold opR dueD
  by_cases h : size t ≤ 12
  · rw [if_pos h, if_pos h]; rfl
  · rw [if_neg h, if_neg h]; rfl
end
end K01
end
section
set_option Elab.async false
set_option linter.all false
set_option maxRecDepth 100000
open PySem Dv L2
namespace K01
theorem forL_nx {b : Dv.Env → Out} {tg : List Nat} {d : D} {r : List D} {e e1 e2 : Dv.Env} (h1 : bindT tg d e = some e1) (h2 : b e1 = .nx e2) : forL b tg (d :: r) e = forL b tg r e2 := by
  show (match bindT tg d e with
    | none => Out.bad
    | some e1 => match b e1 with
      | .nx e2 => forL b tg r e2
      | .ct e2 => forL b tg r e2
      | .bk e2 => .nx e2
      | o => o) = _
  rw [h1]
  dsimp only
  rw [h2]
section
variable {cl : Nat → List D → Res (D × Kd)} {mk : Nat → List D → Res D} {e : Dv.Env}
theorem len_ev {a : M} {l : List D} (h : evE G cl mk a e = .ok (.lst l, .frz)) : evE G cl mk (.blt .len (.cons a .nil)) e = .ok (.int l.length, .frz) := by
  show (((evE G cl mk a e).bind fun x => (Res.ok (D.lst [], Kd.frz)).bind fun l => Res.ok (D.lst (x.1 :: itemsOf l.1), if x.2 = .bor ∨ l.2 = .bor then Kd.bor else Kd.frz)).bind fun x => bltM G cl .len (nbor x.2 x.2) (itemsOf x.1)) = _
  rw [h]
  rfl
theorem cmp_ev {o : Cop} {a b : M} {x y : D × Kd} (h : evE G cl mk a e = .ok x) (h' : evE G cl mk b e = .ok y) : evE G cl mk (.cmp o a b) e = (cmpM G cl o (nbor x.2 y.2) x.1 y.1).bind fun b => Res.ok (D.bl b, Kd.frz) := by
  show ((evE G cl mk a e).bind fun x => (evE G cl mk b e).bind fun y => (cmpM G cl o (nbor x.2 y.2) x.1 y.1).bind fun b => Res.ok (D.bl b, Kd.frz)) = _
  rw [h, h']
  rfl
end
/-! ### the law's own list of what stands in a tree -/
def dB : S := .seq (.seq (.frz [1]) (.ite (.isi (.slot 2) (.ty "tuple")) (.seq (.seq (.frz [1]) (.asg 1 (.bin .add (.slot 1) (.call 32 (.cons (.slot 2) .nil))))) .done) .done)) .done
def dI : M := .slL (.slot 0) (.cst (.int 1))
theorem d32_is : d32.body = .seq (.asg 1 (.lst (.cons (.slot 0) .nil))) (.seq (.seq (.frz [1]) (.for_ [2] dI dB)) (.seq (.seq (.frz [1]) (.ret (.slot 1))) .done)) := rfl
def en2 (d : D) (l : List D) (b : Bool) (c : Option (D × Bool)) : Dv.Env := [some (d, false), some (.lst l, b), c]
def itemsT : T → List D
  | .lf true => [.str "given"]
  | .lf false => [.str "setting"]
  | .num n => [.str "number", .int n]
  | .col n => [.str "column", .int n]
  | .kep n => [.str "kept", .int n]
  | .cal k a => [.str "call", .int k, toD a]
  | .bin o a b => [.str (binW o), toD a, toD b]
  | .whn t a b => [.str "when", toD t, toD a, toD b]
theorem toD_tup : ∀ t : T, toD t = .tup (itemsT t)
  | .lf true => rfl
  | .lf false => rfl
  | .num n => rfl
  | .col n => rfl
  | .kep n => rfl
  | .cal k a => rfl
  | .bin o a b => rfl
  | .whn t a b => rfl
section
variable {n : Nat} {d : D} {l : List D} {b : Bool}
theorem dB_int {k : Int} : evS G (F n) (Mk n) 100 dB (en2 d l b (some (.int k, false))) = .nx (en2 d l false (some (.int k, false))) := by
  cases b <;> kernel_rfl
theorem dB_tree {a : T} {r : List D} (h : F n 32 [toD a] = .ok (.lst r, .frz)) (hl : l.length + r.length ≤ sizeLine) : evS G (F n) (Mk n) 100 dB (en2 d l b (some (toD a, false))) = .nx (en2 d (l ++ r) true (some (toD a, false))) := by
  have s1 : evS G (F n) (Mk n) 100 (.frz [1]) (en2 d l b (some (toD a, false))) = .nx (en2 d l false (some (toD a, false))) := by cases b <;> rfl
  have e1 : evE G (F n) (Mk n) (.isi (.slot 2) (.ty "tuple")) (en2 d l false (some (toD a, false))) = .ok (.bl true, .frz) := by
    rw [toD_tup]
    kernel_rfl
  have e2 : evE G (F n) (Mk n) (.call 32 (.cons (.slot 2) .nil)) (en2 d l false (some (toD a, false))) = F n 32 [toD a] := by kernel_rfl
  have e3 : evE G (F n) (Mk n) (.bin .add (.slot 1) (.call 32 (.cons (.slot 2) .nil))) (en2 d l false (some (toD a, false))) = .ok (.lst (l ++ r), .fr) := by
    have g : evE G (F n) (Mk n) (.bin .add (.slot 1) (.call 32 (.cons (.slot 2) .nil))) (en2 d l false (some (toD a, false))) = (evE G (F n) (Mk n) (.call 32 (.cons (.slot 2) .nil)) (en2 d l false (some (toD a, false)))).bind fun y => binM G (F n) .add (nbor .frz y.2) (.lst l) y.1 := by kernel_rfl
    rw [g, e2, h]
    show ofO (if l.length + r.length ≤ sizeLine then some (D.lst (l ++ r), Kd.fr) else none) = _
    rw [if_pos hl]
    rfl
  have s2 : evS G (F n) (Mk n) 100 (.asg 1 (.bin .add (.slot 1) (.call 32 (.cons (.slot 2) .nil)))) (en2 d l false (some (toD a, false))) = .nx (en2 d (l ++ r) true (some (toD a, false))) := by
    unfold evS
    rw [e3]
    rfl
  have s3 : evS G (F n) (Mk n) 100 (.ite (.isi (.slot 2) (.ty "tuple")) (.seq (.seq (.frz [1]) (.asg 1 (.bin .add (.slot 1) (.call 32 (.cons (.slot 2) .nil))))) .done) .done) (en2 d l false (some (toD a, false))) = .nx (en2 d (l ++ r) true (some (toD a, false))) := by
    unfold evS
    rw [e1]
    show evS G (F n) (Mk n) 100 (.seq (.seq (.frz [1]) (.asg 1 (.bin .add (.slot 1) (.call 32 (.cons (.slot 2) .nil))))) .done) _ = _
    refine (seq_nx (e1 := en2 d (l ++ r) true (some (toD a, false))) ?_).trans rfl
    refine (seq_nx (e1 := en2 d l false (some (toD a, false))) rfl).trans s2
  unfold dB
  refine (seq_nx (e1 := en2 d (l ++ r) true (some (toD a, false))) ?_).trans rfl
  exact (seq_nx s1).trans s3
def dep : T → Nat
  | .cal _ a => dep a + 1
  | .bin _ a b => max (dep a) (dep b) + 1
  | .whn t a b => max (dep t) (max (dep a) (dep b)) + 1
  | _ => 0
theorem F32_of {t : T} {its : List D} {r : List D} {b : Bool} {c : Option (D × Bool)} (hi : evE G (F n) (Mk n) dI (en2 (toD t) [toD t] false none) = .ok (.tup its, .frz)) (hf : forL (evS G (F n) (Mk n) 100 dB) [2] its (en2 (toD t) [toD t] false none) = .nx (en2 (toD t) r b c)) : F (n + 1) 32 [toD t] = .ok (.lst r, .frz) := by
  rw [Fd (d := d32) rfl rfl, d32_is]
  have h0 : envOf d32.np d32.ns [toD t] = [some (toD t, false), none, none] := rfl
  rw [h0]
  have s1 : evS G (F n) (Mk n) 100 (.asg 1 (.lst (.cons (.slot 0) .nil))) [some (toD t, false), none, none] = .nx (en2 (toD t) [toD t] true none) := by kernel_rfl
  have s2 : evS G (F n) (Mk n) 100 (.for_ [2] dI dB) (en2 (toD t) [toD t] false none) = .nx (en2 (toD t) r b c) := by
    unfold evS
    rw [hi]
    unfold Out.of
    dsimp only
    rw [if_neg (by decide)]
    exact hf
  have s3 : evS G (F n) (Mk n) 100 (.seq (.frz [1]) (.for_ [2] dI dB)) (en2 (toD t) [toD t] true none) = .nx (en2 (toD t) r b c) := (seq_nx (e1 := en2 (toD t) [toD t] false none) rfl).trans s2
  rw [seq_nx s1, seq_nx s3]
  cases b <;> kernel_rfl
end
theorem bT {d x : D} {l : List D} {b : Bool} {c : Option (D × Bool)} : bindT [2] x (en2 d l b c) = some (en2 d l b (some (x, false))) := rfl
theorem line : (300 : Nat) ≤ sizeLine := by decide
theorem F32 : ∀ (t : T) (n : Nat), dep t < n → size t ≤ 100 → F n 32 [toD t] = .ok (.lst ((sub t).map toD), .frz)
  | _, 0, h, _ => absurd h (by omega)
  | .lf true, n + 1, _, _ => by kernel_rfl
  | .lf false, n + 1, _, _ => by kernel_rfl
  | .num i, n + 1, _, _ => F32_of (its := [.int i]) (by kernel_rfl) ((forL_nx bT dB_int).trans rfl)
  | .col i, n + 1, _, _ => F32_of (its := [.int i]) (by kernel_rfl) ((forL_nx bT dB_int).trans rfl)
  | .kep i, n + 1, _, _ => F32_of (its := [.int i]) (by kernel_rfl) ((forL_nx bT dB_int).trans rfl)
  | .cal i a, n + 1, h, hs => by
    simp only [dep, size] at h hs
    have ha := F32 a n (by omega) (by omega)
    have l1 := sub_len a
    have hL := line
    have e : ((sub (.cal i a)).map toD) = [toD (.cal i a)] ++ (sub a).map toD := rfl
    rw [e]
    exact F32_of (its := [.int i, toD a]) (by kernel_rfl) ((forL_nx bT dB_int).trans ((forL_nx bT (dB_tree ha (by simp; omega))).trans rfl))
  | .bin o a b, n + 1, h, hs => by
    simp only [dep, size] at h hs
    have ha := F32 a n (by omega) (by omega)
    have hb := F32 b n (by omega) (by omega)
    have l1 := sub_len a
    have l2 := sub_len b
    have hL := line
    have e : ((sub (.bin o a b)).map toD) = [toD (.bin o a b)] ++ (sub a).map toD ++ (sub b).map toD := by simp [sub]
    rw [e]
    exact F32_of (its := [toD a, toD b]) (by kernel_rfl) ((forL_nx bT (dB_tree ha (by simp; omega))).trans ((forL_nx bT (dB_tree hb (by simp; omega))).trans rfl))
  | .whn t a b, n + 1, h, hs => by
    simp only [dep, size] at h hs
    have ht := F32 t n (by omega) (by omega)
    have ha := F32 a n (by omega) (by omega)
    have hb := F32 b n (by omega) (by omega)
    have l0 := sub_len t
    have l1 := sub_len a
    have l2 := sub_len b
    have hL := line
    have e : ((sub (.whn t a b)).map toD) = [toD (.whn t a b)] ++ (sub t).map toD ++ (sub a).map toD ++ (sub b).map toD := by simp [sub]
    rw [e]
    exact F32_of (its := [toD t, toD a, toD b]) (by kernel_rfl) ((forL_nx bT (dB_tree ht (by simp; omega))).trans ((forL_nx bT (dB_tree ha (by simp; omega))).trans ((forL_nx bT (dB_tree hb (by simp; omega))).trans rfl)))
theorem dep_size : ∀ t : T, dep t < size t
  | .lf true => by decide
  | .lf false => by decide
  | .num i => by simp [dep, size]
  | .col i => by simp [dep, size]
  | .kep i => by simp [dep, size]
  | .cal i a => by have := dep_size a; simp only [dep, size]; omega
  | .bin o a b => by have := dep_size a; have := dep_size b; simp only [dep, size]; omega
  | .whn t a b => by have := dep_size a; have := dep_size b; have := dep_size t; simp only [dep, size]; omega
theorem F33 {t : T} {n : Nat} (h : dep t < n) (hs : size t ≤ 100) : F (n + 1) 33 [toD t] = .ok (dueD t, .frz) := by
  have hb : d33.body = .seq (.ret (.ite (.cmp .le (.blt .len (.cons (.call 32 (.cons (.slot 0) .nil)) .nil)) (.cst (.int 12))) (.slot 0) (.cst .non))) .done := rfl
  have he : envOf d33.np d33.ns [toD t] = [some (toD t, false)] := rfl
  rw [Fd (d := d33) rfl rfl, hb, he, fin_ret]
  have e1 : evE G (F n) (Mk n) (.call 32 (.cons (.slot 0) .nil)) [some (toD t, false)] = .ok (.lst ((sub t).map toD), .frz) := by
    have : evE G (F n) (Mk n) (.call 32 (.cons (.slot 0) .nil)) [some (toD t, false)] = F n 32 [toD t] := by kernel_rfl
    rw [this, F32 t n h hs]
  have e2 : evE G (F n) (Mk n) (.cmp .le (.blt .len (.cons (.call 32 (.cons (.slot 0) .nil)) .nil)) (.cst (.int 12))) [some (toD t, false)] = .ok (.bl (decide (size t ≤ 12)), .frz) := by
    rw [cmp_ev (len_ev e1) (show evE G (F n) (Mk n) (.cst (.int 12)) [some (toD t, false)] = .ok (.int 12, .frz) from rfl)]
    show Res.ok (D.bl (decide ((((sub t).map toD).length : Int) ≤ 12)), Kd.frz) = _
    rw [List.length_map, sub_len]
    by_cases z : size t ≤ 12
    · rw [decide_eq_true z, decide_eq_true (by omega)]
    · rw [decide_eq_false z, decide_eq_false (by omega)]
  have e3 : evE G (F n) (Mk n) (.ite (.cmp .le (.blt .len (.cons (.call 32 (.cons (.slot 0) .nil)) .nil)) (.cst (.int 12))) (.slot 0) (.cst .non)) [some (toD t, false)] = .ok (dueD t, .frz) := by
    unfold evE
    rw [e2]
    unfold dueD
    by_cases z : size t ≤ 12
    · rw [decide_eq_true z, if_pos z]; rfl
    · rw [decide_eq_false z, if_neg z]; rfl
  rw [e3]
  rfl
end K01
end
section
set_option Elab.async false
set_option linter.all false
set_option maxRecDepth 100000
open PySem Dv L2
namespace K01
def fstS : S → S
  | .seq s _ => s
  | _ => .dead
def sndS : S → S
  | .seq _ s => s
  | _ => .dead
def forS : S → S
  | .for_ _ _ b => b
  | _ => .dead
theorem due_ne {cl : Nat → List D → Res (D × Kd)} {nb : Bool} {t : T} (h : size t ≤ 60) : cmpM G cl .ne nb (dueD t) (dueD t) = .ok false := by
  unfold dueD
  by_cases z : size t ≤ 12
  · rw [if_pos z]
    have e := eqT_self h
    rw [toD_tup] at e ⊢
    show ofO ((eqD (.tup (itemsT t)) (.tup (itemsT t))).map (!·)) = _
    rw [e]
    rfl
  · rw [if_neg z]
    rfl
theorem due_eq {cl : Nat → List D → Res (D × Kd)} {nb : Bool} {t : T} (h : size t ≤ 60) : cmpM G cl .eq nb (dueD t) (dueD t) = .ok true := by
  unfold dueD
  by_cases z : size t ≤ 12
  · rw [if_pos z]
    have e := eqT_self h
    rw [toD_tup] at e ⊢
    show ofO (eqD (.tup (itemsT t)) (.tup (itemsT t))) = _
    rw [e]
    rfl
  · rw [if_neg z]
    rfl
section
variable {n : Nat}
theorem cmp_due {m c : M} {e : Dv.Env} {t : T} (h1 : evE G (F (n + 1)) (Mk (n + 1)) m e = opR t) (h2 : evE G (F (n + 1)) (Mk (n + 1)) c e = F (n + 1) 33 [toD t]) (hd : dep t < n) (hs : size t ≤ 60) : evE G (F (n + 1)) (Mk (n + 1)) (.cmp .ne (.lamc 0 m) c) e = .ok (.bl false, .frz) := by
  rw [cmp_ev (heard h1) (h2.trans (F33 hd (by omega))), due_ne hs]
  rfl
theorem cmp_due_eq {m c : M} {e : Dv.Env} {t : T} (h1 : evE G (F (n + 1)) (Mk (n + 1)) m e = opR t) (h2 : evE G (F (n + 1)) (Mk (n + 1)) c e = F (n + 1) 33 [toD t]) (hd : dep t < n) (hs : size t ≤ 60) : evE G (F (n + 1)) (Mk (n + 1)) (.cmp .eq (.lamc 0 m) c) e = .ok (.bl true, .frz) := by
  rw [cmp_ev (heard h1) (h2.trans (F33 hd (by omega))), due_eq hs]
  rfl
theorem ite_false {cl : Nat → List D → Res (D × Kd)} {mk : Nat → List D → Res D} {c : M} {a b r : S} {e : Dv.Env} (h : evE G cl mk c e = .ok (.bl false, .frz)) : evS G cl mk 100 (.seq (.ite c a b) r) e = evS G cl mk 100 (.seq b r) e := by
  have : evS G cl mk 100 (.ite c a b) e = evS G cl mk 100 b e := by
    show Out.of (evE G cl mk c e) _ = _
    rw [h]
    rfl
  show (match evS G cl mk 100 (.ite c a b) e with
    | .nx e1 => evS G cl mk 100 r e1
    | o => o) = _
  rw [this]
  rfl
theorem done_seq {cl : Nat → List D → Res (D × Kd)} {mk : Nat → List D → Res D} {r : S} {e : Dv.Env} : evS G cl mk 100 (.seq .done r) e = evS G cl mk 100 r e := rfl
theorem for_ev {cl : Nat → List D → Res (D × Kd)} {mk : Nat → List D → Res D} {tg : List Nat} {it : M} {b : S} {e : Dv.Env} {d : D} {k : Kd} {l : List D} (h : evE G cl mk it e = .ok (d, k)) (hk : k ≠ .bor) (hi : itemsD d = some l) : evS G cl mk 100 (.for_ tg it b) e = forL (evS G cl mk 100 b) tg l e := by
  unfold evS
  rw [h]
  unfold Out.of
  dsimp only
  rw [if_neg hk, hi]
theorem if_line {m c : M} {e : Dv.Env} {t : T} {a r : S} (hd : dep t < n) (hs : size t ≤ 60) (h1 : evE G (F (n + 1)) (Mk (n + 1)) m e = opR t) (h2 : evE G (F (n + 1)) (Mk (n + 1)) c e = F (n + 1) 33 [toD t]) : evS G (F (n + 1)) (Mk (n + 1)) 100 (.seq (.ite (.cmp .ne (.lamc 0 m) c) a .done) r) e = evS G (F (n + 1)) (Mk (n + 1)) 100 r e :=
  (ite_false (cmp_due h1 h2 hd hs)).trans done_seq
end
def lb35 : S := forS (fstS d35.body)
def lr35 : S := sndS d35.body
theorem d35_is : d35.body = .seq (.for_ [2] (.rng (.cons (.cst (.int 3)) .nil)) lb35) lr35 := rfl
def en35 (t : T) (k : Nat) (c : Option (D × Bool)) : Dv.Env := [some (FI t, false), some (toD t, false), some (.int k, false), c]
section
variable {n : Nat} {t u : T}
theorem lb35_ev {k : Nat} {c : Option (D × Bool)} (h : ok t = true) (hs : size t ≤ 12) (hk : k < 3) : evS G (F (n + 15)) (Mk (n + 15)) 100 lb35 (en35 t k c) = .nx (en35 t k (some (toD (.num k), false))) := by
  have hd := dep_size t
  have hn : ok (.num k) = true := decide_eq_true hk
  refine (seq_nx (e1 := en35 t k (some (toD (.num k), false))) (by kernel_rfl)).trans ?_
  refine (if_line (n := n + 14) (t := .bin 0 t (.num k)) (by simp only [dep]; omega) (by simp only [size]; omega) ((by kernel_rfl : _ = F (n + 15) 17 [FI t, .int k]).trans (F17i (okB 0 h hn))) (by kernel_rfl)).trans ?_
  refine (if_line (n := n + 14) (t := .bin 0 (.num k) t) (by simp only [dep]; omega) (by simp only [size]; omega) ((by kernel_rfl : _ = F (n + 15) 18 [FI t, .int k]).trans (F18i (okB 0 hn h))) (by kernel_rfl)).trans ?_
  refine (if_line (n := n + 14) (t := .bin 1 t (.num k)) (by simp only [dep]; omega) (by simp only [size]; omega) ((by kernel_rfl : _ = F (n + 15) 19 [FI t, .int k]).trans (F19i (okB 1 h hn))) (by kernel_rfl)).trans ?_
  refine (if_line (n := n + 14) (t := .bin 1 (.num k) t) (by simp only [dep]; omega) (by simp only [size]; omega) ((by kernel_rfl : _ = F (n + 15) 20 [FI t, .int k]).trans (F20i (okB 1 hn h))) (by kernel_rfl)).trans ?_
  refine (if_line (n := n + 14) (t := .bin 2 t (.num k)) (by simp only [dep]; omega) (by simp only [size]; omega) ((by kernel_rfl : _ = F (n + 15) 21 [FI t, .int k]).trans (F21i (okB 2 h hn))) (by kernel_rfl)).trans ?_
  refine (if_line (n := n + 14) (t := .bin 2 (.num k) t) (by simp only [dep]; omega) (by simp only [size]; omega) ((by kernel_rfl : _ = F (n + 15) 22 [FI t, .int k]).trans (F22i (okB 2 hn h))) (by kernel_rfl)).trans ?_
  refine (if_line (n := n + 14) (t := .bin 3 t (.num k)) (by simp only [dep]; omega) (by simp only [size]; omega) ((by kernel_rfl : _ = F (n + 15) 14 [FI t, .int k]).trans (F14i (okB 3 h hn))) (by kernel_rfl)).trans ?_
  refine (if_line (n := n + 14) (t := .whn t (.num k) t) (by simp only [dep]; omega) (by simp only [size]; omega) ((by kernel_rfl : _ = F (n + 15) 15 [FI t, .int k, FI t]).trans (F15i (okw h hn h))) (by kernel_rfl)).trans ?_
  refine (if_line (n := n + 14) (t := .whn t t (.num k)) (by simp only [dep]; omega) (by simp only [size]; omega) ((by kernel_rfl : _ = F (n + 15) 15 [FI t, FI t, .int k]).trans (F15j (okw h h hn))) (by kernel_rfl)).trans ?_
  refine (if_line (n := n + 14) (t := .cal k t) (by simp only [dep]; omega) (by simp only [size]; omega) ((by kernel_rfl : _ = F (n + 15) 16 [FI t, .int k]).trans (F16 (by simp [ok, hk, h]))) (by kernel_rfl)).trans ?_
  rfl
theorem F35 (h : ok t = true) (hs : size t ≤ 12) : F (n + 16) 35 [FI t, toD t] = .ok (.bl true, .frz) := by
  have hd := dep_size t
  rw [Fd (d := d35) rfl rfl, d35_is]
  have e0 : envOf d35.np d35.ns [FI t, toD t] = [some (FI t, false), some (toD t, false), none, none] := rfl
  rw [e0]
  have s : evS G (F (n + 15)) (Mk (n + 15)) 100 (.for_ [2] (.rng (.cons (.cst (.int 3)) .nil)) lb35) [some (FI t, false), some (toD t, false), none, none] = .nx (en35 t 2 (some (toD (.num 2), false))) := by
    refine (for_ev (d := .lst [.int ((0 : Nat) : Int), .int ((1 : Nat) : Int), .int ((2 : Nat) : Int)]) (k := .frz) (by kernel_rfl) (by decide) rfl).trans ?_
    refine (forL_nx (e1 := en35 t 0 none) rfl (lb35_ev h hs (by omega))).trans ?_
    refine (forL_nx (e1 := en35 t 1 (some (toD (.num 0), false))) rfl (lb35_ev h hs (by omega))).trans ?_
    refine (forL_nx (e1 := en35 t 2 (some (toD (.num 1), false))) rfl (lb35_ev h hs (by omega))).trans ?_
    rfl
  rw [seq_nx s]
  have hr : lr35 = .seq (.ret (.cmp .eq (.lamc 0 (.neg (.slot 0))) (.call 33 (.cons (.tup (.cons (.cst (.str "less")) (.cons (.tup (.cons (.cst (.str "number")) (.cons (.cst (.int 0)) .nil))) (.cons (.slot 1) .nil)))) .nil)))) .done := rfl
  rw [hr, fin_ret]
  have e : evE G (F (n + 15)) (Mk (n + 15)) (.cmp .eq (.lamc 0 (.neg (.slot 0))) (.call 33 (.cons (.tup (.cons (.cst (.str "less")) (.cons (.tup (.cons (.cst (.str "number")) (.cons (.cst (.int 0)) .nil))) (.cons (.slot 1) .nil)))) .nil))) (en35 t 2 (some (toD (.num 2), false))) = .ok (.bl true, .frz) :=
    cmp_due_eq (n := n + 14) (t := .bin 1 (.num 0) t) ((by kernel_rfl : _ = F (n + 15) 23 [FI t]).trans (F23 h)) (by kernel_rfl) (by simp only [dep]; omega) (by simp only [size]; omega)
  rw [e]
  rfl
end
end K01
end
section
set_option Elab.async false
set_option linter.all false
set_option maxRecDepth 100000
open PySem Dv L2
namespace K01
section
variable {cl : Nat → List D → Res (D × Kd)} {mk : Nat → List D → Res D} {nb : Bool} {t u : T}
def eqT' (t u : T) : Bool := PyData.eqv (pT t) (pT u)
theorem tree_eq (h : size t ≤ 60) (h' : size u ≤ 60) : cmpM G cl .eq nb (toD t) (toD u) = .ok (eqT' t u) := by
  have e := eqT h h'
  rw [toD_tup t, toD_tup u] at e ⊢
  show ofO (eqD (.tup (itemsT t)) (.tup (itemsT u))) = _
  rw [e]
  rfl
theorem tree_ne (h : size t ≤ 60) (h' : size u ≤ 60) : cmpM G cl .ne nb (toD t) (toD u) = .ok (!(eqT' t u)) := by
  have e := eqT h h'
  rw [toD_tup t, toD_tup u] at e ⊢
  show ofO ((eqD (.tup (itemsT t)) (.tup (itemsT u))).map (!·)) = _
  rw [e]
  rfl
theorem eqT'_self (h : size t ≤ 60) : eqT' t t = true := SeqAt.eqv_refl _ (lay_pT t)
theorem and_true {a b : M} {e : Dv.Env} {k : Kd} (h : evE G cl mk a e = .ok (.bl true, k)) : evE G cl mk (.and a b) e = evE G cl mk b e := by
  show ((evE G cl mk a e).bind fun x => match truth x.1 with
    | some true => evE G cl mk b e
    | some false => .ok x
    | none => .bad) = _
  rw [h]
  rfl
theorem or_false {a b : M} {e : Dv.Env} {k : Kd} (h : evE G cl mk a e = .ok (.bl false, k)) : evE G cl mk (.or a b) e = evE G cl mk b e := by
  show ((evE G cl mk a e).bind fun x => match truth x.1 with
    | some true => .ok x
    | some false => evE G cl mk b e
    | none => .bad) = _
  rw [h]
  rfl
theorem not_ev {a : M} {e : Dv.Env} {b : Bool} {k : Kd} (h : evE G cl mk a e = .ok (.bl b, k)) : evE G cl mk (.not a) e = .ok (.bl (!b), .frz) := by
  show ((evE G cl mk a e).bind fun x => match truth x.1 with | some b => Res.ok (D.bl (!b), Kd.frz) | none => .bad) = _
  rw [h]
  rfl
theorem cmp_to {o : Cop} {a b : M} {e : Dv.Env} {x y : D} {k k' : Kd} {c : Bool} (h : evE G cl mk a e = .ok (x, k)) (h' : evE G cl mk b e = .ok (y, k')) (hc : cmpM G cl o (nbor k k') x y = .ok c) : evE G cl mk (.cmp o a b) e = .ok (.bl c, .frz) := by
  rw [cmp_ev h h']
  dsimp only
  rw [hc]
  rfl
theorem asg_ev {i : Nat} {m : M} {e : Dv.Env} {d : D} {k : Kd} (h : evE G cl mk m e = .ok (d, k)) (hk : k ≠ .bor) (hi : insFr d k = false) : evS G cl mk 100 (.asg i m) e = .nx (e.set i (some (d, isOwn k))) := by
  show Out.of (evE G cl mk m e) _ = _
  rw [h]
  unfold Out.of
  dsimp only
  rw [if_neg (by rw [hi]; simp [hk])]
end
section
variable {n : Nat} {t u : T}
theorem F26 (h : size t ≤ 60) (h' : size u ≤ 60) : F (n + 1) 26 [FI t, FI u] = .ok (.bl (eqT' t u), .frz) := by
  have hb : d26.body = .seq (.ret (.and (.isi (.slot 1) (.own 0)) (.cmp .eq (.att (.slot 0) "tree") (.att (.slot 1) "tree")))) .done := rfl
  have he : envOf d26.np d26.ns [FI t, FI u] = [some (FI t, false), some (FI u, false)] := rfl
  rw [Fd (d := d26) rfl rfl, hb, he, fin_ret, and_true (k := .frz) (by kernel_rfl), cmp_ev (x := (toD t, .frz)) (y := (toD u, .frz)) (by kernel_rfl) (by kernel_rfl), tree_eq h h']
  rfl
theorem eqFI {nb : Bool} (hn : nb = true) (h : size t ≤ 60) (h' : size u ≤ 60) : cmpM G (F (n + 1)) .eq nb (FI t) (FI u) = .ok (eqT' t u) := by
  subst hn
  have e : cmpM G (F (n + 1)) .eq true (FI t) (FI u) = (F (n + 1) 26 [FI t, FI u]).bind fun r => match r.1 with | .bl b => .ok b | _ => .bad := by kernel_rfl
  rw [e, F26 h h']
  rfl
theorem neFI {nb : Bool} (hn : nb = true) (h : size t ≤ 60) (h' : size u ≤ 60) : cmpM G (F (n + 1)) .ne nb (FI t) (FI u) = .ok (!(eqT' t u)) := by
  subst hn
  have e : cmpM G (F (n + 1)) .ne true (FI t) (FI u) = ((F (n + 1) 26 [FI t, FI u]).bind fun r => match r.1 with | .bl b => Res.ok b | _ => .bad).bind fun b => .ok (!b) := by kernel_rfl
  rw [e, F26 h h']
  rfl
theorem cmp_bl {cl : Nat → List D → Res (D × Kd)} {o : Cop} {nb b c : Bool} (ho : o = .eq ∨ o = .ne) : cmpM G cl o nb (.bl b) (.bl c) = .ok (match o with | .eq => b == c | _ => b != c) := by
  rcases ho with rfl | rfl <;> cases b <;> cases c <;> rfl
theorem F36 (h : ok t = true) (hs : size t ≤ 12) (h' : ok u = true) (hs' : size u ≤ 12) : F (n + 16) 36 [FI t, toD t, FI u, toD u] = .ok (.bl true, .frz) := by
  have hd := dep_size t
  have hd' := dep_size u
  have he : envOf d36.np d36.ns [FI t, toD t, FI u, toD u] = [some (FI t, false), some (toD t, false), some (FI u, false), some (toD u, false), none] := rfl
  rw [Fd (d := d36) rfl rfl, he]
  have key : evS G (F (n + 15)) (Mk (n + 15)) 100 d36.body [some (FI t, false), some (toD t, false), some (FI u, false), some (toD u, false), none] = evS G (F (n + 15)) (Mk (n + 15)) 100 (.seq (.ret (.and (.cmp .eq (.cmp .eq (.slot 0) (.slot 2)) (.slot 4)) (.cmp .ne (.cmp .ne (.slot 0) (.slot 2)) (.slot 4)))) .done) [some (FI t, false), some (toD t, false), some (FI u, false), some (toD u, false), some (.bl (eqT' t u), false)] := by
    refine (if_line (n := n + 14) (t := .bin 0 t u) (by simp only [dep]; omega) (by simp only [size]; omega) ((by kernel_rfl : _ = F (n + 15) 17 [FI t, FI u]).trans (F17 (okB 0 h h'))) (by kernel_rfl)).trans ?_
    refine (if_line (n := n + 14) (t := .bin 1 t u) (by simp only [dep]; omega) (by simp only [size]; omega) ((by kernel_rfl : _ = F (n + 15) 19 [FI t, FI u]).trans (F19 (okB 1 h h'))) (by kernel_rfl)).trans ?_
    refine (if_line (n := n + 14) (t := .bin 2 t u) (by simp only [dep]; omega) (by simp only [size]; omega) ((by kernel_rfl : _ = F (n + 15) 21 [FI t, FI u]).trans (F21 (okB 2 h h'))) (by kernel_rfl)).trans ?_
    refine (if_line (n := n + 14) (t := .bin 3 t u) (by simp only [dep]; omega) (by simp only [size]; omega) ((by kernel_rfl : _ = F (n + 15) 14 [FI t, FI u]).trans (F14 (okB 3 h h'))) (by kernel_rfl)).trans ?_
    refine (if_line (n := n + 14) (t := .whn t u t) (by simp only [dep]; omega) (by simp only [size]; omega) ((by kernel_rfl : _ = F (n + 15) 15 [FI t, FI u, FI t]).trans (F15 (okw h h' h))) (by kernel_rfl)).trans ?_
    refine seq_nx ?_
    have e1 : evE G (F (n + 15)) (Mk (n + 15)) (.cmp .eq (.slot 1) (.slot 3)) [some (FI t, false), some (toD t, false), some (FI u, false), some (toD u, false), none] = .ok (.bl (eqT' t u), .frz) := by
      rw [cmp_ev (x := (toD t, .frz)) (y := (toD u, .frz)) (by kernel_rfl) (by kernel_rfl), tree_eq (by omega) (by omega)]
      rfl
    exact asg_ev e1 (by decide) rfl
  rw [key, fin_ret]
  have a1 : evE G (F (n + 15)) (Mk (n + 15)) (.cmp .eq (.slot 0) (.slot 2)) [some (FI t, false), some (toD t, false), some (FI u, false), some (toD u, false), some (.bl (eqT' t u), false)] = .ok (.bl (eqT' t u), .frz) := by
    exact cmp_to (x := FI t) (y := FI u) (k := .frz) (k' := .frz) (by kernel_rfl) (by kernel_rfl) (eqFI (n := n + 14) rfl (by omega) (by omega))
  have a2 : evE G (F (n + 15)) (Mk (n + 15)) (.cmp .ne (.slot 0) (.slot 2)) [some (FI t, false), some (toD t, false), some (FI u, false), some (toD u, false), some (.bl (eqT' t u), false)] = .ok (.bl (!(eqT' t u)), .frz) := by
    exact cmp_to (x := FI t) (y := FI u) (k := .frz) (k' := .frz) (by kernel_rfl) (by kernel_rfl) (neFI (n := n + 14) rfl (by omega) (by omega))
  have b1 : evE G (F (n + 15)) (Mk (n + 15)) (.cmp .eq (.cmp .eq (.slot 0) (.slot 2)) (.slot 4)) [some (FI t, false), some (toD t, false), some (FI u, false), some (toD u, false), some (.bl (eqT' t u), false)] = .ok (.bl true, .frz) := by
    rw [cmp_ev a1 (y := (.bl (eqT' t u), .frz)) (by kernel_rfl), cmp_bl (.inl rfl)]
    cases eqT' t u <;> rfl
  have b2 : evE G (F (n + 15)) (Mk (n + 15)) (.cmp .ne (.cmp .ne (.slot 0) (.slot 2)) (.slot 4)) [some (FI t, false), some (toD t, false), some (FI u, false), some (toD u, false), some (.bl (eqT' t u), false)] = .ok (.bl true, .frz) := by
    rw [cmp_ev a2 (y := (.bl (eqT' t u), .frz)) (by kernel_rfl), cmp_bl (.inr rfl)]
    cases eqT' t u <;> rfl
  rw [and_true b1, b2]
  rfl
end
end K01
end
section
set_option Elab.async false
set_option linter.all false
set_option maxRecDepth 100000
open PySem Dv L2
namespace K01
theorem mem_insI {i j : Int} : ∀ {l : List Int}, j ∈ insI i l ↔ j = i ∨ j ∈ l
  | [] => by simp [insI]
  | k :: r => by
    unfold insI
    by_cases h : i ≤ k
    · rw [if_pos h]; simp
    · rw [if_neg h]
      simp only [List.mem_cons, mem_insI (l := r)]
      constructor <;> (rintro (h | h | h) <;> simp [h])
theorem mem_isort {j : Int} : ∀ {l : List Int}, j ∈ isort l ↔ j ∈ l
  | [] => by simp [isort]
  | k :: r => by
    unfold isort
    rw [mem_insI, mem_isort (l := r), List.mem_cons]
theorem insI_lt {i : Int} : ∀ {l : List Int}, l.Pairwise (· < ·) → i ∉ l → (insI i l).Pairwise (· < ·)
  | [], _, _ => by simp [insI]
  | k :: r, h, hn => by
    unfold insI
    have h1 := List.pairwise_cons.mp h
    have hne : i ≠ k := fun z => hn (by simp [z])
    have hnr : i ∉ r := fun z => hn (by simp [z])
    by_cases q : i ≤ k
    · rw [if_pos q]
      refine List.pairwise_cons.mpr ⟨fun x hx => ?_, h⟩
      rcases List.mem_cons.mp hx with rfl | hx
      · omega
      · have := h1.1 x hx; omega
    · rw [if_neg q]
      refine List.pairwise_cons.mpr ⟨fun x hx => ?_, insI_lt h1.2 hnr⟩
      rcases mem_insI.mp hx with rfl | hx
      · omega
      · exact h1.1 x hx
theorem isort_lt : ∀ {l : List Int}, l.Nodup → (isort l).Pairwise (· < ·)
  | [], _ => by simp [isort]
  | k :: r, h => by
    have h1 := List.nodup_cons.mp h
    unfold isort
    exact insI_lt (isort_lt h1.2) fun z => h1.1 (mem_isort.mp z)
theorem mem_dedup {j : Int} : ∀ {l : List Int}, j ∈ dedup l ↔ j ∈ l
  | [] => by simp [dedup]
  | k :: r => by
    unfold dedup
    by_cases h : r.contains k = true
    · rw [if_pos h, mem_dedup (l := r), List.mem_cons]
      constructor
      · exact .inr
      · rintro (rfl | h')
        · simpa using h
        · exact h'
    · rw [if_neg h, List.mem_cons, mem_dedup (l := r), List.mem_cons]
theorem nodup_dedup : ∀ {l : List Int}, (dedup l).Nodup
  | [] => by simp [dedup]
  | k :: r => by
    unfold dedup
    by_cases h : r.contains k = true
    · rw [if_pos h]; exact nodup_dedup
    · rw [if_neg h]
      refine List.nodup_cons.mpr ⟨fun z => h ?_, nodup_dedup⟩
      simpa using mem_dedup.mp z
theorem lt_ext : ∀ {l l' : List Int}, l.Pairwise (· < ·) → l'.Pairwise (· < ·) → (∀ x, x ∈ l ↔ x ∈ l') → l = l'
  | [], [], _, _, _ => rfl
  | [], y :: r, _, _, h => by have := (h y).mpr (by simp); simp at this
  | y :: r, [], _, _, h => by have := (h y).mp (by simp); simp at this
  | x :: r, y :: s, h1, h2, h => by
    have a1 := List.pairwise_cons.mp h1
    have a2 := List.pairwise_cons.mp h2
    have e : x = y := by
      rcases List.mem_cons.mp ((h x).mp (by simp)) with q | q
      · exact q
      · rcases List.mem_cons.mp ((h y).mpr (by simp)) with q' | q'
        · exact q'.symm
        · have := a1.1 y q'; have := a2.1 x q; omega
    subst e
    congr 1
    refine lt_ext a1.2 a2.2 fun z => ?_
    constructor
    · intro hz
      rcases List.mem_cons.mp ((h z).mp (List.mem_cons_of_mem _ hz)) with q | q
      · subst q; exact absurd (a1.1 z hz) (by omega)
      · exact q
    · intro hz
      rcases List.mem_cons.mp ((h z).mpr (List.mem_cons_of_mem _ hz)) with q | q
      · subst q; exact absurd (a2.1 z hz) (by omega)
      · exact q
theorem sd_ext {l l' : List Int} (h : ∀ x, x ∈ l ↔ x ∈ l') : isort (dedup l) = isort (dedup l') :=
  lt_ext (isort_lt nodup_dedup) (isort_lt nodup_dedup) fun x => by rw [mem_isort, mem_isort, mem_dedup, mem_dedup]; exact h x
/-! ### what stands in a tree: words and numbers -/
def num : T → Int
  | .num n => n
  | .col n => n
  | .kep n => n
  | .cal k _ => k
  | _ => 0
def numd : T → Bool
  | .num _ => true
  | .col _ => true
  | .kep _ => true
  | .cal _ _ => true
  | _ => false
theorem compL_T {tt te : Dv.Env → Res (D × Kd)} {tg : List Nat} {e : Dv.Env} {f : T → Bool} {g : T → D} {en : T → Dv.Env} : ∀ (l : List T), (∀ x ∈ l, bindT tg (toD x) e = some (en x)) → (∀ x ∈ l, ∃ k, tt (en x) = .ok (.bl (f x), k)) → (∀ x ∈ l, f x = true → te (en x) = .ok (g x, .frz)) → compL tt te tg e (l.map toD) = .ok ((l.filter f).map g)
  | [], _, _, _ => rfl
  | x :: r, h1, h2, h3 => by
    have ih := compL_T r (fun y hy => h1 y (List.mem_cons_of_mem _ hy)) (fun y hy => h2 y (List.mem_cons_of_mem _ hy)) (fun y hy => h3 y (List.mem_cons_of_mem _ hy))
    obtain ⟨k, q⟩ := h2 x (by simp)
    rw [List.map_cons]
    unfold compL
    rw [h1 x (by simp)]
    dsimp only
    rw [q]
    dsimp only [truth]
    cases hf : f x with
    | false =>
      dsimp only
      rw [ih, List.filter_cons_of_neg (by simp [hf])]
    | true =>
      dsimp only
      rw [h3 x (by simp) hf, ih, List.filter_cons_of_pos hf]
      rfl
section
variable {cl : Nat → List D → Res (D × Kd)} {mk : Nat → List D → Res D} {nb : Bool} {e : Dv.Env} {i : Nat} {x : T}
theorem slot_ev {d : D} (h : getE e i = some (d, false)) : evE G cl mk (.slot i) e = .ok (d, .frz) := by
  unfold evE
  rw [h]
theorem ix0 (h : getE e i = some (toD x, false)) : evE G cl mk (.ix (.slot i) (.cst (.int 0))) e = .ok (.str (word x), .frz) := by
  have hs : evE G cl mk (.slot i) e = .ok (toD x, .frz) := slot_ev h
  have hx : ixD (toD x) (.int 0) = some (.str (word x)) := by
    cases x with
    | lf b => cases b <;> rfl
    | _ => rfl
  show ((evE G cl mk (.slot i) e).bind fun x => (Res.ok (D.int 0, Kd.frz)).bind fun y => match ixD x.1 y.1 with
    | some d => Res.ok (d, Kd.frz)
    | none => _) = _
  rw [hs]
  show (match ixD (toD x) (.int 0) with
    | some d => Res.ok (d, Kd.frz)
    | none => _) = _
  rw [hx]
theorem ix1 (h : getE e i = some (toD x, false)) (hn : numd x = true) : evE G cl mk (.ix (.slot i) (.cst (.int 1))) e = .ok (.int (num x), .frz) := by
  have hs : evE G cl mk (.slot i) e = .ok (toD x, .frz) := slot_ev h
  have hx : ixD (toD x) (.int 1) = some (.int (num x)) := by
    cases x with
    | lf b => cases hn
    | bin o a b => cases hn
    | whn t a b => cases hn
    | _ => rfl
  show ((evE G cl mk (.slot i) e).bind fun x => (Res.ok (D.int 1, Kd.frz)).bind fun y => match ixD x.1 y.1 with
    | some d => Res.ok (d, Kd.frz)
    | none => _) = _
  rw [hs]
  show (match ixD (toD x) (.int 1) with
    | some d => Res.ok (d, Kd.frz)
    | none => _) = _
  rw [hx]
theorem word_ok (x : T) : PyData.strOk (word x) = true := by
  cases x with
  | lf b => cases b <;> decide +kernel
  | bin o a b => exact ws.2.2.2.2.2 o
  | num _ => exact ws.1
  | col _ => exact ws.2.1
  | kep _ => exact ws.2.2.1
  | cal _ _ => exact ws.2.2.2.1
  | whn _ _ _ => exact ws.2.2.2.2.1
theorem str_cmp {a b : Str} (h : PyData.strOk a = true) (h' : PyData.strOk b = true) : cmpM G cl .eq nb (.str a) (.str b) = .ok (decide (a = b)) := by
  show ofO (if SeqAt.shaped (.str a) && SeqAt.shaped (.str b) then some (PyData.eqv (.str a) (.str b)) else none) = _
  have s : ∀ {z : Str}, PyData.strOk z = true → SeqAt.shaped (.str z) = true := fun {z} hz => by
    show (PyData.canLay0 (.str z) && decide (PyData.depth (.str z) ≤ 64)) = true
    simp [PyData.canLay0, PyData.depth, hz]
  rw [s h, s h']
  show Res.ok (PyData.eqv (.str a) (.str b)) = _
  congr 1
end
end K01
end
section
set_option Elab.async false
set_option linter.all false
set_option maxRecDepth 100000
open PySem Dv L2
namespace K01
def isW (w : Str) (x : T) : Bool := decide (word x = w)
def numsOf (w : Str) (l : List T) : List Int := (l.filter (isW w)).map num
def sd (l : List Int) : D := .tup ((isort (dedup l)).map .int)
/-- words that a number follows -/
def nw (w : Str) : Bool := decide (w = "call") || decide (w = "column") || decide (w = "kept")
theorem nw_ok {w : Str} (h : nw w = true) : PyData.strOk w = true := by
  simp only [nw, Bool.or_eq_true, decide_eq_true_eq] at h
  rcases h with (rfl | rfl) | rfl
  · exact ws.2.2.2.1
  · exact ws.2.1
  · exact ws.2.2.1
theorem nw_num {w : Str} (h : nw w = true) {x : T} (hx : isW w x = true) : numd x = true := by
  have e : word x = w := of_decide_eq_true hx
  subst e
  cases x with
  | lf b => cases b <;> exact absurd h (by decide +kernel)
  | bin o a b => exact absurd (show nw (binW o) = true from h) (by have : ∀ o, ¬ nw (binW o) = true := by decide +kernel
                                                                   exact this o)
  | whn t a b => exact absurd h (by show ¬ nw "when" = true; decide +kernel)
  | _ => rfl
theorem mapM_int : ∀ (l : List Int), (l.map D.int).mapM intOf = some l
  | [] => rfl
  | i :: r => by
    rw [List.map_cons, List.mapM_cons, mapM_int r]
    rfl
theorem dedup_len : ∀ (l : List Int), (dedup l).length ≤ l.length
  | [] => Nat.le_refl _
  | i :: r => by
    have := dedup_len r
    unfold dedup
    split
    · simp only [List.length_cons]; omega
    · simp only [List.length_cons]; omega
theorem sset_ev {l : List Int} (h : l.length < 64) : ofO (bltD .sset [.lst (l.map .int)]) = .ok (.lst ((isort (dedup l)).map .int), .fr) := by
  show ofO (match (l.map D.int).mapM intOf with | some ns => if ns.length < 64 then some (D.lst ((isort (dedup ns)).map .int), Kd.fr) else none | none => none) = _
  rw [mapM_int]
  dsimp only
  rw [if_pos h]
  rfl
theorem nums_map (w : Str) (l : List T) : (l.filter (isW w)).map (fun x => D.int (num x)) = (numsOf w l).map .int := by
  unfold numsOf
  rw [List.map_map]
  rfl
theorem nums_len (w : Str) (l : List T) : (numsOf w l).length ≤ l.length := by
  unfold numsOf
  rw [List.length_map]
  exact List.length_filter_le _ _
section
variable {cl : Nat → List D → Res (D × Kd)} {mk : Nat → List D → Res D} {e : Dv.Env}
theorem tuple_ev {a : M} {l : List D} {k : Kd} (h : evE G cl mk a e = .ok (.lst l, k)) (hk : k ≠ .bor) : evE G cl mk (.blt .tuple (.cons a .nil)) e = .ok (.tup l, .frz) := by
  show (((evE G cl mk a e).bind fun x => (Res.ok (D.lst [], Kd.frz)).bind fun l => Res.ok (D.lst (x.1 :: itemsOf l.1), if x.2 = .bor ∨ l.2 = .bor then Kd.bor else Kd.frz)).bind fun x => bltM G cl .tuple (nbor x.2 x.2) (itemsOf x.1)) = _
  rw [h]
  cases k with
  | bor => exact absurd rfl hk
  | _ => rfl
theorem sset_evE {vs tg : List Nat} {it t c : M} {l ds : List D} {k : Kd} (h : evE G cl mk it e = .ok (.lst l, k)) (hk : k ≠ .bor) (hl : l.length ≤ 1000) (hc : compL (evE G cl mk t) (evE G cl mk c) tg (wipeE e vs) l = .ok ds) : evE G cl mk (.sset vs tg it t c) e = ofO (bltD .sset [.lst ds]) := by
  show ((evE G cl mk it e).bind fun x => if x.2 = .bor then .bad else match itemsD x.1 with
    | some l => if 1000 < l.length then .bad else (compL (evE G cl mk t) (evE G cl mk c) tg (wipeE e vs) l).bind fun ds => ofO (bltD .sset [.lst ds])
    | none => .bad) = _
  rw [h]
  show (if k = .bor then Res.bad else if 1000 < l.length then .bad else (compL (evE G cl mk t) (evE G cl mk c) tg (wipeE e vs) l).bind fun ds => ofO (bltD .sset [.lst ds])) = _
  rw [if_neg hk, if_neg (by omega), hc]
  rfl
theorem comp_evE {vs tg : List Nat} {it t c : M} {l ds : List D} {d : D} {k : Kd} (h : evE G cl mk it e = .ok (d, k)) (hk : k ≠ .bor) (hi : itemsD d = some l) (hl : l.length ≤ 1000) (hc : compL (evE G cl mk t) (evE G cl mk c) tg (wipeE e vs) l = .ok ds) : evE G cl mk (.comp vs tg it t c) e = .ok (.lst ds, .fr) := by
  show ((evE G cl mk it e).bind fun x => if x.2 = .bor then .bad else match itemsD x.1 with
    | some l => if 100000 < l.length then .bad else (compL (evE G cl mk t) (evE G cl mk c) tg (wipeE e vs) l).bind fun ds => Res.ok (D.lst ds, Kd.fr)
    | none => .bad) = _
  rw [h]
  show (if k = .bor then Res.bad else match itemsD d with
    | some l => if 100000 < l.length then .bad else (compL (evE G cl mk t) (evE G cl mk c) tg (wipeE e vs) l).bind fun ds => Res.ok (D.lst ds, Kd.fr)
    | none => .bad) = _
  rw [if_neg hk, hi]
  dsimp only
  rw [if_neg (by omega), hc]
  rfl
end
section
variable {n : Nat} {t : T}
theorem F4 {w : Str} (h : ok t = true) (hs : size t ≤ 12) (hw : nw w = true) : F (n + 5) 4 [toD t, .str w] = .ok (sd (numsOf w (sub t)), .frz) := by
  rcases F3 (n := n) h with ⟨z, _⟩ | ⟨_, l, p, q⟩
  · omega
  have hb : d4.body = .seq (.ret (.blt .tuple (.cons (.sset [2] [2] (.call 3 (.cons (.slot 0) .nil)) (.cmp .eq (.ix (.slot 2) (.cst (.int 0))) (.slot 1)) (.ix (.slot 2) (.cst (.int 1)))) .nil))) .done := rfl
  have he : envOf d4.np d4.ns [toD t, .str w] = [some (toD t, false), some (.str w, false), none] := rfl
  have hl : l.length = size t := by rw [p.length_eq, sub_len]
  rw [Fd (d := d4) rfl rfl, hb, he, fin_ret]
  have e1 : evE G (F (n + 4)) (Mk (n + 4)) (.call 3 (.cons (.slot 0) .nil)) [some (toD t, false), some (.str w, false), none] = .ok (.lst (l.map toD), .frz) := (by kernel_rfl : _ = F (n + 4) 3 [toD t]).trans q
  have c : compL (evE G (F (n + 4)) (Mk (n + 4)) (.cmp .eq (.ix (.slot 2) (.cst (.int 0))) (.slot 1))) (evE G (F (n + 4)) (Mk (n + 4)) (.ix (.slot 2) (.cst (.int 1)))) [2] (wipeE [some (toD t, false), some (.str w, false), none] [2]) (l.map toD) = .ok ((l.filter (isW w)).map fun x => .int (num x)) :=
    compL_T (en := fun x => [some (toD t, false), some (.str w, false), some (toD x, false)]) l (fun x _ => rfl) (fun x _ => ⟨.frz, cmp_to (ix0 rfl) (slot_ev rfl) (str_cmp (word_ok x) (nw_ok hw))⟩) (fun x _ hx => ix1 rfl (nw_num hw hx))
  have e2 := sset_evE (vs := [2]) e1 (by decide) (by rw [List.length_map]; omega) c
  rw [nums_map, sset_ev (by have := nums_len w l; omega)] at e2
  rw [tuple_ev e2 (by decide), sd_ext (l := numsOf w l) (l' := numsOf w (sub t)) (fun x => (List.Perm.map num (List.Perm.filter _ p)).mem_iff)]
  rfl
theorem F11 (h : ok t = true) (hs : size t ≤ 12) : F (n + 6) 11 [FI t] = .ok (sd (numsOf "call" (sub t)), .frz) := by
  have hb : d11.body = .seq (.ret (.call 4 (.cons (.att (.slot 0) "tree") (.cons (.cst (.str "call")) .nil)))) .done := rfl
  rw [Fd (d := d11) rfl rfl, hb, fin_ret, (by kernel_rfl : evE G (F (n + 5)) (Mk (n + 5)) (.call 4 (.cons (.att (.slot 0) "tree") (.cons (.cst (.str "call")) .nil))) (envOf d11.np d11.ns [FI t]) = F (n + 5) 4 [toD t, .str "call"]), F4 h hs (by decide +kernel)]
  rfl
theorem F12 (h : ok t = true) (hs : size t ≤ 12) : F (n + 6) 12 [FI t] = .ok (sd (numsOf "column" (sub t)), .frz) := by
  have hb : d12.body = .seq (.ret (.call 4 (.cons (.att (.slot 0) "tree") (.cons (.cst (.str "column")) .nil)))) .done := rfl
  rw [Fd (d := d12) rfl rfl, hb, fin_ret, (by kernel_rfl : evE G (F (n + 5)) (Mk (n + 5)) (.call 4 (.cons (.att (.slot 0) "tree") (.cons (.cst (.str "column")) .nil))) (envOf d12.np d12.ns [FI t]) = F (n + 5) 4 [toD t, .str "column"]), F4 h hs (by decide +kernel)]
  rfl
theorem F13 (h : ok t = true) (hs : size t ≤ 12) : F (n + 6) 13 [FI t] = .ok (sd (numsOf "kept" (sub t)), .frz) := by
  have hb : d13.body = .seq (.ret (.call 4 (.cons (.att (.slot 0) "tree") (.cons (.cst (.str "kept")) .nil)))) .done := rfl
  rw [Fd (d := d13) rfl rfl, hb, fin_ret, (by kernel_rfl : evE G (F (n + 5)) (Mk (n + 5)) (.call 4 (.cons (.att (.slot 0) "tree") (.cons (.cst (.str "kept")) .nil))) (envOf d13.np d13.ns [FI t]) = F (n + 5) 4 [toD t, .str "kept"]), F4 h hs (by decide +kernel)]
  rfl
theorem F25 (h : ok t = true) (hs : size t ≤ 12) : F (n + 5) 25 [FI t] = .ok (.int (size t), .frz) := by
  rcases F3 (n := n) h with ⟨z, _⟩ | ⟨_, l, p, q⟩
  · omega
  have hb : d25.body = .seq (.ret (.blt .len (.cons (.call 3 (.cons (.att (.slot 0) "tree") .nil)) .nil))) .done := rfl
  have hl : l.length = size t := by rw [p.length_eq, sub_len]
  rw [Fd (d := d25) rfl rfl, hb, fin_ret, len_ev (l := l.map toD) ((by kernel_rfl : evE G (F (n + 4)) (Mk (n + 4)) (.call 3 (.cons (.att (.slot 0) "tree") .nil)) (envOf d25.np d25.ns [FI t]) = F (n + 4) 3 [toD t]).trans q), List.length_map, hl]
  rfl
theorem in_words {w : Str} : ∀ (l : List T), inD (.str w) (l.map fun x => .str (word x)) = some (l.any (isW w)) := by
  intro l
  have hm : ∀ l : List T, (l.map fun x => D.str (word x)).mapM flatToV = some (l.map fun x => V.str (word x)) := by
    intro l
    induction l with
    | nil => rfl
    | cons x r ih => rw [List.map_cons, List.mapM_cons, ih]; rfl
  show (match (l.map fun x => D.str (word x)).mapM flatToV with
    | some ws => some (inV (.str w) ws)
    | none => none) = _
  rw [hm]
  show some ((l.map fun x => V.str (word x)).any fun y => eqV y (.str w)) = _
  rw [List.any_map]
  congr 1
theorem any_perm {w : Str} {l l' : List T} (p : l.Perm l') : l.any (isW w) = l'.any (isW w) := by
  rw [Bool.eq_iff_iff, List.any_eq_true, List.any_eq_true]
  exact ⟨fun ⟨x, h, q⟩ => ⟨x, p.mem_iff.mp h, q⟩, fun ⟨x, h, q⟩ => ⟨x, p.mem_iff.mpr h, q⟩⟩
theorem F24 {w : Str} (h : ok t = true) (hs : size t ≤ 12) : F (n + 5) 24 [FI t, .str w] = .ok (.bl ((sub t).any (isW w)), .frz) := by
  rcases F3 (n := n) h with ⟨z, _⟩ | ⟨_, l, p, q⟩
  · omega
  have hb : d24.body = .seq (.ret (.and (.isi (.slot 1) (.ty "str")) (.cmp .mem (.slot 1) (.comp [2] [2] (.call 3 (.cons (.att (.slot 0) "tree") .nil)) (.cst (.bl true)) (.ix (.slot 2) (.cst (.int 0))))))) .done := rfl
  have he : envOf d24.np d24.ns [FI t, .str w] = [some (FI t, false), some (.str w, false), none] := rfl
  have hl : l.length = size t := by rw [p.length_eq, sub_len]
  rw [Fd (d := d24) rfl rfl, hb, he, fin_ret, and_true (k := .frz) (by kernel_rfl)]
  have e1 : evE G (F (n + 4)) (Mk (n + 4)) (.call 3 (.cons (.att (.slot 0) "tree") .nil)) [some (FI t, false), some (.str w, false), none] = .ok (.lst (l.map toD), .frz) := (by kernel_rfl : _ = F (n + 4) 3 [toD t]).trans q
  have c : compL (evE G (F (n + 4)) (Mk (n + 4)) (.cst (.bl true))) (evE G (F (n + 4)) (Mk (n + 4)) (.ix (.slot 2) (.cst (.int 0)))) [2] (wipeE [some (FI t, false), some (.str w, false), none] [2]) (l.map toD) = .ok ((l.filter fun _ => true).map fun x => .str (word x)) :=
    compL_T (f := fun _ => true) (en := fun x => [some (FI t, false), some (.str w, false), some (toD x, false)]) l (fun x _ => rfl) (fun x _ => ⟨.frz, rfl⟩) (fun x _ _ => ix0 rfl)
  have e2 := comp_evE (vs := [2]) e1 (by decide) rfl (by rw [List.length_map]; omega) c
  have hf : (l.filter fun _ => true) = l := List.filter_eq_self.mpr (fun _ _ => rfl)
  rw [hf] at e2
  have e3 : cmpM G (F (n + 4)) .mem (nbor .frz .fr) (.str w) (.lst (l.map fun x => .str (word x))) = .ok ((sub t).any (isW w)) := by
    show ofO (inD (.str w) (l.map fun x => .str (word x))) = _
    rw [in_words, any_perm p]
    rfl
  rw [cmp_to (slot_ev rfl) e2 e3]
  rfl
end
end K01
end
section
set_option Elab.async false
set_option linter.all false
set_option maxRecDepth 100000
open PySem Dv L2
namespace K01
section
variable {cl : Nat → List D → Res (D × Kd)} {mk : Nat → List D → Res D} {e : Dv.Env} {nb : Bool}
theorem frz_seq {is : List Nat} {s : S} (h : frzE is e = e) : evS G cl mk 100 (.seq (.frz is) s) e = evS G cl mk 100 s e := seq_nx (by show Out.nx (frzE is e) = _; rw [h])
theorem seq_seq {a s : S} {e1 : Dv.Env} (h : evS G cl mk 100 a e = .nx e1) {o : Out} (h2 : evS G cl mk 100 s e1 = o) : evS G cl mk 100 (.seq a s) e = o := (seq_nx h).trans h2
theorem ite_f {c : M} {a b : S} {k : Kd} (h : evE G cl mk c e = .ok (.bl false, k)) : evS G cl mk 100 (.ite c a b) e = evS G cl mk 100 b e := by
  show Out.of (evE G cl mk c e) _ = _
  rw [h]
  rfl
theorem ite_t {c : M} {a b : S} {k : Kd} (h : evE G cl mk c e = .ok (.bl true, k)) : evS G cl mk 100 (.ite c a b) e = evS G cl mk 100 a e := by
  show Out.of (evE G cl mk c e) _ = _
  rw [h]
  rfl
theorem and_false {a b : M} {k : Kd} (h : evE G cl mk a e = .ok (.bl false, k)) : evE G cl mk (.and a b) e = .ok (.bl false, k) := by
  show ((evE G cl mk a e).bind fun x => match truth x.1 with
    | some true => evE G cl mk b e
    | some false => .ok x
    | none => .bad) = _
  rw [h]
  rfl
theorem cons_ev {a r : M} {d : D} {l : List D} {k : Kd} (h : evE G cl mk a e = .ok (d, k)) (hk : k ≠ .bor) (h' : evE G cl mk r e = .ok (.lst l, .frz)) : evE G cl mk (.cons a r) e = .ok (.lst (d :: l), .frz) := by
  show ((evE G cl mk a e).bind fun x => (evE G cl mk r e).bind fun l => Res.ok (D.lst (x.1 :: itemsOf l.1), if x.2 = .bor ∨ l.2 = .bor then Kd.bor else Kd.frz)) = _
  rw [h, h']
  cases k with
  | bor => exact absurd rfl hk
  | _ => rfl
theorem len_back {i : Int} (h : 0 ≤ i ∧ i < 2 ^ 62) : ((Res.ok (D.int i, Kd.frz)).bind fun r => match r.1 with | .int i => if 0 ≤ i ∧ i < 2 ^ 62 then Res.ok r else .bad | _ => .bad) = .ok (D.int i, Kd.frz) := if_pos h
theorem tup_ev {m : M} {l : List D} (h : evE G cl mk m e = .ok (.lst l, .frz)) : evE G cl mk (.tup m) e = .ok (.tup l, .frz) := by
  show ((evE G cl mk m e).bind fun x => if x.2 = .bor then Res.bad else Res.ok (D.tup (itemsOf x.1), Kd.frz)) = _
  rw [h]
  rfl
theorem nil_ev : evE G cl mk .nil e = .ok (.lst [], .frz) := rfl
theorem blt1_ev {b : Bt} {a : M} {d : D} {k : Kd} {r : D × Kd} (h : evE G cl mk a e = .ok (d, k)) (hb : bltM G cl b (nbor (if k = .bor then Kd.bor else .frz) (if k = .bor then Kd.bor else .frz)) [d] = .ok r) : evE G cl mk (.blt b (.cons a .nil)) e = .ok r := by
  show (((evE G cl mk a e).bind fun x => (Res.ok (D.lst [], Kd.frz)).bind fun l => Res.ok (D.lst (x.1 :: itemsOf l.1), if x.2 = .bor ∨ l.2 = .bor then Kd.bor else Kd.frz)).bind fun x => bltM G cl b (nbor x.2 x.2) (itemsOf x.1)) = _
  rw [h, ← hb]
  cases k <;> rfl
theorem toPs_int : ∀ l : List Int, toPs (l.map .int) = some (l.map .int)
  | [] => rfl
  | i :: r => by
    rw [List.map_cons]
    unfold toPs
    rw [toPs_int r]
    rfl
theorem lay_int : ∀ l : List Int, PyData.canLayAll0 (l.map .int) = true
  | [] => rfl
  | i :: r => by
    rw [List.map_cons]
    unfold PyData.canLayAll0
    rw [lay_int r]
    rfl
theorem depth_int : ∀ l : List Int, PyData.depthAll (l.map .int) ≤ 1
  | [] => by simp [PyData.depthAll]
  | i :: r => by
    have := depth_int r
    rw [List.map_cons]
    unfold PyData.depthAll
    simp [PyData.depth]
    omega
theorem ints_eq (l : List Int) : eqD (.tup (l.map .int)) (.tup (l.map .int)) = some true := by
  have h1 : toP (.tup (l.map .int)) = some (.tuple (l.map .int)) := by
    unfold toP
    rw [toPs_int]
  have c : PyData.canLay0 (.tuple (l.map .int)) = true := by
    unfold PyData.canLay0
    exact lay_int l
  have h2 : SeqAt.shaped (.tuple (l.map .int)) = true := by
    show (PyData.canLay0 (.tuple (l.map .int)) && decide (PyData.depth (.tuple (l.map .int)) ≤ 64)) = true
    have := depth_int l
    rw [c, decide_eq_true (by unfold PyData.depth; omega)]
    rfl
  unfold eqD
  rw [h1]
  dsimp only
  rw [h2, SeqAt.eqv_refl _ c]
  rfl
theorem ints_ne {l : List Int} : cmpM G cl .ne nb (.tup (l.map .int)) (.tup (l.map .int)) = .ok false := by
  show ofO ((eqD (.tup (l.map .int)) (.tup (l.map .int))).map (!·)) = _
  rw [ints_eq]
  rfl
end
theorem not_word (x : T) : isW "" x = false ∧ isW "Sum" x = false ∧ isW "forms" x = false := by
  cases x with
  | lf b => cases b <;> decide +kernel
  | bin o a b =>
    have : ∀ o, decide (binW o = ("" : Str)) = false ∧ decide (binW o = ("Sum" : Str)) = false ∧ decide (binW o = ("forms" : Str)) = false := by decide +kernel
    exact this o
  | num n => exact (by decide +kernel : decide (("number" : Str) = "") = false ∧ decide (("number" : Str) = "Sum") = false ∧ decide (("number" : Str) = "forms") = false)
  | col n => exact (by decide +kernel : decide (("column" : Str) = "") = false ∧ decide (("column" : Str) = "Sum") = false ∧ decide (("column" : Str) = "forms") = false)
  | kep n => exact (by decide +kernel : decide (("kept" : Str) = "") = false ∧ decide (("kept" : Str) = "Sum") = false ∧ decide (("kept" : Str) = "forms") = false)
  | cal k a => exact (by decide +kernel : decide (("call" : Str) = "") = false ∧ decide (("call" : Str) = "Sum") = false ∧ decide (("call" : Str) = "forms") = false)
  | whn a b c => exact (by decide +kernel : decide (("when" : Str) = "") = false ∧ decide (("when" : Str) = "Sum") = false ∧ decide (("when" : Str) = "forms") = false)
theorem any_not {w : Str} {l : List T} (h : ∀ x, isW w x = false) : l.any (isW w) = false := by
  rw [List.any_eq_false]
  intro x _
  rw [h x]
  decide
section
variable {n : Nat} {t : T}
theorem mem_form {w : Str} {nb : Bool} (hn : nb = true) (h : ok t = true) (hs : size t ≤ 12) : cmpM G (F (n + 5)) .mem nb (.str w) (FI t) = .ok ((sub t).any (isW w)) := by
  subst hn
  have e : cmpM G (F (n + 5)) .mem true (.str w) (FI t) = (F (n + 5) 24 [FI t, .str w]).bind fun r => match r.1 with | .bl b => Res.ok b | _ => .bad := by kernel_rfl
  rw [e, F24 h hs]
  rfl
theorem F24n {d : D} (hi : evE G (F n) (Mk n) (.isi (.slot 1) (.ty "str")) [some (FI t, false), some (d, false), none] = .ok (.bl false, .frz)) : F (n + 1) 24 [FI t, d] = .ok (.bl false, .frz) := by
  have hb : d24.body = .seq (.ret (.and (.isi (.slot 1) (.ty "str")) (.cmp .mem (.slot 1) (.comp [2] [2] (.call 3 (.cons (.att (.slot 0) "tree") .nil)) (.cst (.bl true)) (.ix (.slot 2) (.cst (.int 0))))))) .done := rfl
  have he : envOf d24.np d24.ns [FI t, d] = [some (FI t, false), some (d, false), none] := rfl
  rw [Fd (d := d24) rfl rfl, hb, he, fin_ret, and_false hi]
  rfl
def en34 (t : T) (r : List D) (a3 a4 a5 a6 a7 : Option (D × Bool)) : Dv.Env := [some (FI t, false), some (toD t, false), some (.lst r, false), a3, a4, a5, a6, a7]
def it34 : M := .tup (.cons (.tup (.cons (.cst (.str "call")) (.cons (.att (.slot 0) "calls") .nil))) (.cons (.tup (.cons (.cst (.str "column")) (.cons (.att (.slot 0) "columns") .nil))) (.cons (.tup (.cons (.cst (.str "kept")) (.cons (.att (.slot 0) "reads") .nil))) .nil)))
def bo1 : S := .seq (.seq (.frz [2]) (.ite (.cmp .ne (.slot 4) (.blt .tuple (.cons (.blt .sset (.cons (.comp [5] [5] (.slot 2) (.cmp .eq (.ix (.slot 5) (.cst (.int 0))) (.slot 3)) (.blt .int (.cons (.ix (.slot 5) (.cst (.int 1))) .nil))) .nil)) .nil))) (.seq (.ret (.cst (.bl false))) .done) .done)) .done
def it2 : M := .tup (.cons (.cst (.str "number")) (.cons (.cst (.str "given")) (.cons (.cst (.str "setting")) (.cons (.cst (.str "column")) (.cons (.cst (.str "kept")) (.cons (.cst (.str "call")) (.cons (.cst (.str "sum")) (.cons (.cst (.str "less")) (.cons (.cst (.str "times")) (.cons (.cst (.str "same")) (.cons (.cst (.str "when")) .nil)))))))))))
def bo2 : S := .seq (.seq (.frz [6]) (.ite (.cmp .ne (.cmp .mem (.slot 3) (.slot 0)) (.cmp .mem (.slot 3) (.slot 6))) (.seq (.ret (.cst (.bl false))) .done) .done)) .done
def it3 : M := .tup (.cons (.cst (.str "")) (.cons (.cst (.str "Sum")) (.cons (.cst .non) (.cons (.cst (.int 0)) (.cons (.slot 1) (.cons (.slot 0) (.cons (.lst .nil) (.cons (.cst (.str "forms")) .nil))))))))
def c34 : M := .or (.cmp .ne (.att (.slot 0) "tree") (.slot 1)) (.cmp .ne (.blt .len (.cons (.slot 0) .nil)) (.blt .len (.cons (.slot 2) .nil)))
theorem d34_is : d34.body = .seq (.asg 2 (.call 32 (.cons (.slot 1) .nil))) (.seq (.seq (.frz [2]) (.ite c34 (.seq (.ret (.cst (.bl false))) .done) .done)) (.seq (.seq (.frz [2]) (.for_ [3, 4] it34 bo1)) (.seq (.seq (.frz [2]) (.asg 6 (.comp [5] [5] (.slot 2) (.cst (.bl true)) (.ix (.slot 5) (.cst (.int 0)))))) (.seq (.seq (.frz [6]) (.for_ [3] it2 bo2)) (.seq (.ret (.not (.blt .any (.cons (.comp [7] [7] it3 (.cst (.bl true)) (.cmp .mem (.slot 7) (.slot 0))) .nil)))) .done))))) := rfl
theorem bo1_ev {w : Str} {l : List T} {a5 a6 a7 : Option (D × Bool)} (hw : nw w = true) (hl : l.length ≤ 12) : evS G (F n) (Mk n) 100 bo1 (en34 t (l.map toD) (some (.str w, false)) (some (sd (numsOf w l), false)) a5 a6 a7) = .nx (en34 t (l.map toD) (some (.str w, false)) (some (sd (numsOf w l), false)) a5 a6 a7) := by
  have c : compL (evE G (F n) (Mk n) (.cmp .eq (.ix (.slot 5) (.cst (.int 0))) (.slot 3))) (evE G (F n) (Mk n) (.blt .int (.cons (.ix (.slot 5) (.cst (.int 1))) .nil))) [5] (wipeE (en34 t (l.map toD) (some (.str w, false)) (some (sd (numsOf w l), false)) a5 a6 a7) [5]) (l.map toD) = .ok ((l.filter (isW w)).map fun x => .int (num x)) :=
    compL_T (en := fun x => en34 t (l.map toD) (some (.str w, false)) (some (sd (numsOf w l), false)) (some (toD x, false)) a6 a7) l (fun x _ => rfl) (fun x _ => ⟨.frz, cmp_to (ix0 rfl) (slot_ev rfl) (str_cmp (word_ok x) (nw_ok hw))⟩) (fun x _ hx => blt1_ev (ix1 rfl (nw_num hw hx)) rfl)
  have e2 := comp_evE (vs := [5]) (slot_ev (cl := F n) (mk := Mk n) (e := en34 t (l.map toD) (some (.str w, false)) (some (sd (numsOf w l), false)) a5 a6 a7) (i := 2) rfl) (by decide) rfl (by rw [List.length_map]; omega) c
  rw [nums_map] at e2
  have e3 := blt1_ev (b := .sset) e2 (sset_ev (by have := nums_len w l; omega))
  have e4 := tuple_ev e3 (by decide)
  have e5 := cmp_to (o := .ne) (slot_ev (cl := F n) (mk := Mk n) (e := en34 t (l.map toD) (some (.str w, false)) (some (sd (numsOf w l), false)) a5 a6 a7) (i := 4) rfl) e4 ints_ne
  unfold bo1
  refine (seq_nx ?_).trans rfl
  refine (frz_seq rfl).trans ?_
  exact (ite_f e5).trans rfl
theorem bo2_ev {l : List T} : ∀ (v : List Str) {a3 a4 a5 a7 : Option (D × Bool)}, ok t = true → size t ≤ 12 → l.Perm (sub t) → ∃ a3', forL (evS G (F (n + 5)) (Mk (n + 5)) 100 bo2) [3] (v.map .str) (en34 t (l.map toD) a3 a4 a5 (some (.lst (l.map fun x => .str (word x)), false)) a7) = .nx (en34 t (l.map toD) a3' a4 a5 (some (.lst (l.map fun x => .str (word x)), false)) a7)
  | [], a3, _, _, _, _, _, _ => ⟨a3, rfl⟩
  | w :: v, a3, a4, a5, a7, h, hs, p => by
    obtain ⟨a', ih⟩ := bo2_ev v (a3 := some (.str w, false)) (a4 := a4) (a5 := a5) (a7 := a7) h hs p
    refine ⟨a', (forL_nx (e1 := en34 t (l.map toD) (some (.str w, false)) a4 a5 (some (.lst (l.map fun x => .str (word x)), false)) a7) rfl ?_).trans ih⟩
    have e1 := cmp_to (o := .mem) (slot_ev (cl := F (n + 5)) (mk := Mk (n + 5)) (e := en34 t (l.map toD) (some (.str w, false)) a4 a5 (some (.lst (l.map fun x => .str (word x)), false)) a7) (i := 3) rfl) (slot_ev (i := 0) (d := FI t) rfl) (mem_form rfl h hs)
    have e2 := cmp_to (o := .mem) (c := (sub t).any (isW w)) (slot_ev (cl := F (n + 5)) (mk := Mk (n + 5)) (e := en34 t (l.map toD) (some (.str w, false)) a4 a5 (some (.lst (l.map fun x => .str (word x)), false)) a7) (i := 3) rfl) (slot_ev (i := 6) (d := .lst (l.map fun x => .str (word x))) rfl) (by
      show ofO (inD (.str w) (l.map fun x => .str (word x))) = _
      rw [in_words, any_perm p]
      rfl)
    have e3 := cmp_to (o := .ne) (c := false) e1 e2 (by rw [cmp_bl (.inr rfl)]; cases (sub t).any (isW w) <;> rfl)
    unfold bo2
    refine (seq_nx ?_).trans rfl
    refine (frz_seq rfl).trans ?_
    exact (ite_f e3).trans rfl
theorem it3_no (h : ok t = true) (hs : size t ≤ 12) {r : List D} {a3 a4 a5 a6 : Option (D × Bool)} : compL (evE G (F (n + 5)) (Mk (n + 5)) (.cst (.bl true))) (evE G (F (n + 5)) (Mk (n + 5)) (.cmp .mem (.slot 7) (.slot 0))) [7] (wipeE (en34 t r a3 a4 a5 a6 none) [7]) [.str "", .str "Sum", .non, .int 0, toD t, FI t, .lst [], .str "forms"] = .ok [.bl false, .bl false, .bl false, .bl false, .bl false, .bl false, .bl false, .bl false] := by
  have line : ∀ {d : D} {ds rs : List D}, cmpM G (F (n + 5)) .mem true d (FI t) = .ok false → compL (evE G (F (n + 5)) (Mk (n + 5)) (.cst (.bl true))) (evE G (F (n + 5)) (Mk (n + 5)) (.cmp .mem (.slot 7) (.slot 0))) [7] (wipeE (en34 t r a3 a4 a5 a6 none) [7]) ds = .ok rs → compL (evE G (F (n + 5)) (Mk (n + 5)) (.cst (.bl true))) (evE G (F (n + 5)) (Mk (n + 5)) (.cmp .mem (.slot 7) (.slot 0))) [7] (wipeE (en34 t r a3 a4 a5 a6 none) [7]) (d :: ds) = .ok (.bl false :: rs) := by
    intro d ds rs hd hr
    have e : evE G (F (n + 5)) (Mk (n + 5)) (.cmp .mem (.slot 7) (.slot 0)) (en34 t r a3 a4 a5 a6 (some (d, false))) = .ok (.bl false, .frz) := cmp_to (o := .mem) (slot_ev (i := 7) (d := d) rfl) (slot_ev (i := 0) (d := FI t) rfl) hd
    have b : bindT [7] d (wipeE (en34 t r a3 a4 a5 a6 none) [7]) = some (en34 t r a3 a4 a5 a6 (some (d, false))) := rfl
    have tt : evE G (F (n + 5)) (Mk (n + 5)) (.cst (.bl true)) (en34 t r a3 a4 a5 a6 (some (d, false))) = .ok (.bl true, .frz) := rfl
    unfold compL
    rw [b]
    dsimp only
    rw [tt]
    dsimp only [truth]
    rw [e, hr]
    rfl
  have hF : ∀ {d : D}, cmpM G (F (n + 5)) .mem true d (FI t) = ((F (n + 5) 24 [FI t, d]).bind fun r => match r.1 with | .bl b => Res.ok b | _ => .bad) → F (n + 5) 24 [FI t, d] = .ok (.bl false, .frz) → cmpM G (F (n + 5)) .mem true d (FI t) = .ok false := fun e f => by
    rw [e, f]
    rfl
  refine line ((mem_form rfl h hs).trans (by rw [any_not fun x => (not_word x).1])) ?_
  refine line ((mem_form rfl h hs).trans (by rw [any_not fun x => (not_word x).2.1])) ?_
  refine line (hF (by kernel_rfl) (F24n (by kernel_rfl))) ?_
  refine line (hF (by kernel_rfl) (F24n (by kernel_rfl))) ?_
  refine line (by rw [toD_tup]; exact hF (by kernel_rfl) (F24n (by kernel_rfl))) ?_
  refine line (hF (by kernel_rfl) (F24n (by kernel_rfl))) ?_
  refine line (hF (by kernel_rfl) (F24n (by kernel_rfl))) ?_
  refine line ((mem_form rfl h hs).trans (by rw [any_not fun x => (not_word x).2.2])) ?_
  rfl
theorem F34 (h : ok t = true) (hs : size t ≤ 12) : F (n + 16) 34 [FI t, toD t] = .ok (.bl true, .frz) := by
  have hd := dep_size t
  have he : envOf d34.np d34.ns [FI t, toD t] = [some (FI t, false), some (toD t, false), none, none, none, none, none, none] := rfl
  have hl : (sub t).length ≤ 12 := by rw [sub_len]; exact hs
  rw [Fd (d := d34) rfl rfl, he, d34_is]
  have s1 : evS G (F (n + 15)) (Mk (n + 15)) 100 (.asg 2 (.call 32 (.cons (.slot 1) .nil))) [some (FI t, false), some (toD t, false), none, none, none, none, none, none] = .nx (en34 t ((sub t).map toD) none none none none none) :=
    asg_ev ((by kernel_rfl : _ = F (n + 15) 32 [toD t]).trans (F32 t (n + 15) (by omega) (by omega))) (by decide) rfl
  rw [seq_nx s1]
  have ec : evE G (F (n + 15)) (Mk (n + 15)) c34 (en34 t ((sub t).map toD) none none none none none) = .ok (.bl false, .frz) := by
    have a1 : evE G (F (n + 15)) (Mk (n + 15)) (.cmp .ne (.att (.slot 0) "tree") (.slot 1)) (en34 t ((sub t).map toD) none none none none none) = .ok (.bl false, .frz) :=
      cmp_to (x := toD t) (y := toD t) (k := .frz) (k' := .frz) (by kernel_rfl) (by kernel_rfl) ((tree_ne (by omega) (by omega)).trans (by rw [eqT'_self (by omega)]; rfl))
    have a2 : evE G (F (n + 15)) (Mk (n + 15)) (.blt .len (.cons (.slot 0) .nil)) (en34 t ((sub t).map toD) none none none none none) = .ok (.int (size t), .frz) := by
      have q : evE G (F (n + 15)) (Mk (n + 15)) (.blt .len (.cons (.slot 0) .nil)) (en34 t ((sub t).map toD) none none none none none) = (F (n + 15) 25 [FI t]).bind fun r => match r.1 with | .int i => if 0 ≤ i ∧ i < 2 ^ 62 then Res.ok r else .bad | _ => .bad := by kernel_rfl
      rw [q, F25 (n := n + 10) h hs]
      exact len_back ⟨Int.natCast_nonneg _, by omega⟩
    have a3 := len_ev (slot_ev (cl := F (n + 15)) (mk := Mk (n + 15)) (e := en34 t ((sub t).map toD) none none none none none) (i := 2) (d := .lst ((sub t).map toD)) rfl)
    have a4 := cmp_to (o := .ne) (c := false) a2 a3 (by
      rw [List.length_map, sub_len]
      show ofO ((eqD (.int (size t)) (.int (size t))).map (!·)) = _
      show ofO ((some (PyData.eqv (.int (size t)) (.int (size t)))).map (!·)) = _
      rw [SeqAt.eqv_refl _ rfl]
      rfl)
    exact (or_false a1).trans a4
  have s2 : evS G (F (n + 15)) (Mk (n + 15)) 100 (.seq (.frz [2]) (.ite c34 (.seq (.ret (.cst (.bl false))) .done) .done)) (en34 t ((sub t).map toD) none none none none none) = .nx (en34 t ((sub t).map toD) none none none none none) :=
    (frz_seq rfl).trans ((ite_f ec).trans rfl)
  rw [seq_nx s2]
  have pe : ∀ {f : Nat} {x : Str} {d : D}, evE G (F (n + 15)) (Mk (n + 15)) (.att (.slot 0) x) (en34 t ((sub t).map toD) none none none none none) = (match F (n + 15) f [FI t] with | .ok r => Res.ok r | _ => .bad) → F (n + 15) f [FI t] = .ok (d, .frz) → evE G (F (n + 15)) (Mk (n + 15)) (.att (.slot 0) x) (en34 t ((sub t).map toD) none none none none none) = .ok (d, .frz) := fun a b => by
    rw [a, b]
  have p1 : evE G (F (n + 15)) (Mk (n + 15)) (.att (.slot 0) "calls") (en34 t ((sub t).map toD) none none none none none) = .ok (sd (numsOf "call" (sub t)), .frz) := pe (f := 11) (by kernel_rfl) (F11 (n := n + 9) h hs)
  have p2 : evE G (F (n + 15)) (Mk (n + 15)) (.att (.slot 0) "columns") (en34 t ((sub t).map toD) none none none none none) = .ok (sd (numsOf "column" (sub t)), .frz) := pe (f := 12) (by kernel_rfl) (F12 (n := n + 9) h hs)
  have p3 : evE G (F (n + 15)) (Mk (n + 15)) (.att (.slot 0) "reads") (en34 t ((sub t).map toD) none none none none none) = .ok (sd (numsOf "kept" (sub t)), .frz) := pe (f := 13) (by kernel_rfl) (F13 (n := n + 9) h hs)
  have i1 : evE G (F (n + 15)) (Mk (n + 15)) it34 (en34 t ((sub t).map toD) none none none none none) = .ok (.tup [.tup [.str "call", sd (numsOf "call" (sub t))], .tup [.str "column", sd (numsOf "column" (sub t))], .tup [.str "kept", sd (numsOf "kept" (sub t))]], .frz) :=
    tup_ev (cons_ev (k := .frz) (tup_ev (cons_ev (k := .frz) rfl (by decide) (cons_ev p1 (by decide) nil_ev))) (by decide) (cons_ev (k := .frz) (tup_ev (cons_ev (k := .frz) rfl (by decide) (cons_ev p2 (by decide) nil_ev))) (by decide) (cons_ev (k := .frz) (tup_ev (cons_ev (k := .frz) rfl (by decide) (cons_ev p3 (by decide) nil_ev))) (by decide) nil_ev)))
  have s3 : evS G (F (n + 15)) (Mk (n + 15)) 100 (.seq (.frz [2]) (.for_ [3, 4] it34 bo1)) (en34 t ((sub t).map toD) none none none none none) = .nx (en34 t ((sub t).map toD) (some (.str "kept", false)) (some (sd (numsOf "kept" (sub t)), false)) none none none) := by
    refine (frz_seq rfl).trans ((for_ev i1 (by decide) rfl).trans ?_)
    refine (forL_nx (e1 := en34 t ((sub t).map toD) (some (.str "call", false)) (some (sd (numsOf "call" (sub t)), false)) none none none) rfl (bo1_ev (by decide +kernel) hl)).trans ?_
    refine (forL_nx (e1 := en34 t ((sub t).map toD) (some (.str "column", false)) (some (sd (numsOf "column" (sub t)), false)) none none none) rfl (bo1_ev (by decide +kernel) hl)).trans ?_
    refine (forL_nx (e1 := en34 t ((sub t).map toD) (some (.str "kept", false)) (some (sd (numsOf "kept" (sub t)), false)) none none none) rfl (bo1_ev (by decide +kernel) hl)).trans ?_
    rfl
  rw [seq_nx s3]
  generalize (some (D.str "kept", false)) = a3
  generalize (some (sd (numsOf "kept" (sub t)), false)) = a4
  have c : compL (evE G (F (n + 15)) (Mk (n + 15)) (.cst (.bl true))) (evE G (F (n + 15)) (Mk (n + 15)) (.ix (.slot 5) (.cst (.int 0)))) [5] (wipeE (en34 t ((sub t).map toD) a3 a4 none none none) [5]) ((sub t).map toD) = .ok (((sub t).filter fun _ => true).map fun x => .str (word x)) :=
    compL_T (f := fun _ => true) (en := fun x => en34 t ((sub t).map toD) a3 a4 (some (toD x, false)) none none) (sub t) (fun x _ => rfl) (fun x _ => ⟨.frz, rfl⟩) (fun x _ _ => ix0 rfl)
  have hf : ((sub t).filter fun _ => true) = sub t := List.filter_eq_self.mpr (fun _ _ => rfl)
  rw [hf] at c
  have e4 := comp_evE (vs := [5]) (slot_ev (cl := F (n + 15)) (mk := Mk (n + 15)) (e := en34 t ((sub t).map toD) a3 a4 none none none) (i := 2) (d := .lst ((sub t).map toD)) rfl) (by decide) rfl (by rw [List.length_map]; omega) c
  have s4 : evS G (F (n + 15)) (Mk (n + 15)) 100 (.seq (.frz [2]) (.asg 6 (.comp [5] [5] (.slot 2) (.cst (.bl true)) (.ix (.slot 5) (.cst (.int 0)))))) (en34 t ((sub t).map toD) a3 a4 none none none) = .nx (en34 t ((sub t).map toD) a3 a4 none (some (.lst ((sub t).map fun x => .str (word x)), true)) none) :=
    (frz_seq rfl).trans (asg_ev e4 (by decide) rfl)
  rw [seq_nx s4]
  have i2 : evE G (F (n + 15)) (Mk (n + 15)) it2 (en34 t ((sub t).map toD) a3 a4 none (some (.lst ((sub t).map fun x => .str (word x)), false)) none) = .ok (.tup ((["number", "given", "setting", "column", "kept", "call", "sum", "less", "times", "same", "when"] : List Str).map .str), .frz) := by kernel_rfl
  obtain ⟨a3', s5⟩ := bo2_ev (n := n + 10) (l := sub t) ["number", "given", "setting", "column", "kept", "call", "sum", "less", "times", "same", "when"] (a3 := a3) (a4 := a4) (a5 := none) (a7 := none) h hs (List.Perm.refl _)
  have s5' : evS G (F (n + 15)) (Mk (n + 15)) 100 (.seq (.frz [6]) (.for_ [3] it2 bo2)) (en34 t ((sub t).map toD) a3 a4 none (some (.lst ((sub t).map fun x => .str (word x)), true)) none) = .nx (en34 t ((sub t).map toD) a3' a4 none (some (.lst ((sub t).map fun x => .str (word x)), false)) none) :=
    (seq_nx (e1 := en34 t ((sub t).map toD) a3 a4 none (some (.lst ((sub t).map fun x => .str (word x)), false)) none) rfl).trans ((for_ev i2 (by decide) rfl).trans s5)
  rw [seq_nx s5', fin_ret]
  have i3 : evE G (F (n + 15)) (Mk (n + 15)) it3 (en34 t ((sub t).map toD) a3' a4 none (some (.lst ((sub t).map fun x => .str (word x)), false)) none) = .ok (.tup [.str "", .str "Sum", .non, .int 0, toD t, FI t, .lst [], .str "forms"], .frz) := by kernel_rfl
  have e6 := comp_evE (vs := [7]) i3 (by decide) rfl (by simp) (it3_no (n := n + 10) h hs)
  have e7 := blt1_ev (b := .any) (r := (.bl false, .frz)) e6 (by kernel_rfl)
  rw [not_ev e7]
  rfl
end
end K01
end
section
set_option Elab.async false
set_option linter.all false
set_option maxRecDepth 100000
set_option exponentiation.threshold 500
open PySem Dv L2
namespace K01
section
variable {cl : Nat → List D → Res (D × Kd)} {mk : Nat → List D → Res D} {e : Dv.Env} {a b : M} {x y : Int}
theorem small_log {x : Int} (h : -1000000000000000000000000000000 ≤ x ∧ x ≤ 1000000000000000000000000000000) : x.natAbs.log2 < 400 := by
  by_cases z : x.natAbs = 0
  · rw [z]; decide
  · rw [Nat.log2_lt z]
    have : x.natAbs ≤ 1000000000000000000000000000000 := by omega
    exact Nat.lt_of_le_of_lt this (by decide +kernel)
theorem bin_int {o : Bop} {r : Int} (ha : evE G cl mk a e = .ok (.int x, .frz)) (hb : evE G cl mk b e = .ok (.int y, .frz)) (h : binD o (.int x) (.int y) = some (.int r, .frz)) : evE G cl mk (.bin o a b) e = .ok (.int r, .frz) := by
  show ((evE G cl mk a e).bind fun x => (evE G cl mk b e).bind fun y => binM G cl o (nbor x.2 y.2) x.1 y.1) = _
  rw [ha, hb]
  show ofO (binD o (.int x) (.int y)) = _
  rw [h]
  rfl
theorem add_ev (ha : evE G cl mk a e = .ok (.int x, .frz)) (hb : evE G cl mk b e = .ok (.int y, .frz)) : evE G cl mk (.bin .add a b) e = .ok (.int (x + y), .frz) := bin_int ha hb rfl
theorem sub_ev (ha : evE G cl mk a e = .ok (.int x, .frz)) (hb : evE G cl mk b e = .ok (.int y, .frz)) : evE G cl mk (.bin .sub a b) e = .ok (.int (x - y), .frz) := bin_int ha hb rfl
theorem mul_ev (ha : evE G cl mk a e = .ok (.int x, .frz)) (hb : evE G cl mk b e = .ok (.int y, .frz)) (h : -1000000000000000000000000000000 ≤ x ∧ x ≤ 1000000000000000000000000000000) (h' : -1000000000000000000000000000000 ≤ y ∧ y ≤ 1000000000000000000000000000000) : evE G cl mk (.bin .mul a b) e = .ok (.int (x * y), .frz) := by
  refine bin_int ha hb ?_
  have := small_log h
  have := small_log h'
  exact if_pos (by omega)
theorem fdiv_ev (ha : evE G cl mk a e = .ok (.int x, .frz)) (hb : evE G cl mk b e = .ok (.int y, .frz)) (h : 0 < y) (h' : y ≤ 1000000000000000000000000000000) : evE G cl mk (.bin .fdiv a b) e = .ok (.int (x / y), .frz) := by
  refine bin_int ha hb ?_
  have := small_log (x := y) ⟨by omega, h'⟩
  exact if_pos ⟨h, by omega⟩
theorem mod_ev (ha : evE G cl mk a e = .ok (.int x, .frz)) (hb : evE G cl mk b e = .ok (.int y, .frz)) (h : 0 < y) : evE G cl mk (.bin .mod a b) e = .ok (.int (x % y), .frz) := by
  refine bin_int ha hb ?_
  exact if_pos h
theorem int_ev (ha : evE G cl mk a e = .ok (.int x, .frz)) : evE G cl mk (.blt .int (.cons a .nil)) e = .ok (.int x, .frz) := blt1_ev ha rfl
theorem cst_ev {d : D} : evE G cl mk (.cst d) e = .ok (d, .frz) := rfl
theorem par_ev {i j : Nat} {d d' : D} (ha : evE G cl mk a e = .ok (d, .frz)) (hb : evE G cl mk b e = .ok (d', .frz)) : evS G cl mk 100 (.par i j a b) e = .nx ((e.set i (some (d, false))).set j (some (d', false))) := by
  show Out.of (evE G cl mk (.cons a (.cons b .nil)) e) _ = _
  rw [cons_ev ha (by decide) (cons_ev hb (by decide) nil_ev)]
  rfl
theorem ite_evE_t {t : M} {k : Kd} (h : evE G cl mk t e = .ok (.bl true, k)) : evE G cl mk (.ite t a b) e = evE G cl mk a e := by
  show ((evE G cl mk t e).bind fun x => match truth x.1 with
    | some true => evE G cl mk a e
    | some false => evE G cl mk b e
    | none => .bad) = _
  rw [h]
  rfl
theorem ite_evE_f {t : M} {k : Kd} (h : evE G cl mk t e = .ok (.bl false, k)) : evE G cl mk (.ite t a b) e = evE G cl mk b e := by
  show ((evE G cl mk t e).bind fun x => match truth x.1 with
    | some true => evE G cl mk a e
    | some false => evE G cl mk b e
    | none => .bad) = _
  rw [h]
  rfl
end
theorem toP_scr (l : List Int) : SeqAt.shaped (.list (l.map .int)) = true := by
  have c : PyData.canLay0 (.list (l.map .int)) = true := by
    unfold PyData.canLay0
    exact lay_int l
  show (PyData.canLay0 (.list (l.map .int)) && decide (PyData.depth (.list (l.map .int)) ≤ 64)) = true
  have := depth_int l
  rw [c, decide_eq_true (by unfold PyData.depth; omega)]
  rfl
theorem scr_nil {cl : Nat → List D → Res (D × Kd)} {nb : Bool} : cmpM G cl .ne nb (.scr []) (.lst []) = .ok false := by kernel_rfl
theorem scr_cons {cl : Nat → List D → Res (D × Kd)} {nb : Bool} {i : Int} {r : List Int} : cmpM G cl .ne nb (.scr (i :: r)) (.lst []) = .ok true := by
  show ofO ((eqD (.scr (i :: r)) (.lst [])).map (!·)) = _
  have : eqD (.scr (i :: r)) (.lst []) = some false := by
    show (if SeqAt.shaped (.list ((i :: r).map .int)) && SeqAt.shaped (.list []) then some (PyData.eqv (.list ((i :: r).map .int)) (.list [])) else none) = _
    rw [toP_scr, (by decide +kernel : SeqAt.shaped (PyData.list []) = true)]
    rfl
  rw [this]
  rfl
def it29 : M := .ite (.cmp .ne (.slot 0) (.lst .nil)) (.slH (.slot 0) (.cst (.int 63))) (.lst (.cons (.cst (.int 5)) .nil))
theorem cells_ev {cl : Nat → List D → Res (D × Kd)} {mk : Nat → List D → Res D} {ns : List Int} (h : ns.length ≤ 63) {r : Dv.Env} : ∃ c : List Int, c ≠ [] ∧ c.length ≤ 63 ∧ evE G cl mk it29 (some (.scr ns, false) :: r) = .ok (.lst (c.map .int), .fr) := by
  cases ns with
  | nil =>
    refine ⟨[5], by decide, by decide, ?_⟩
    exact ite_evE_f (cmp_to (x := .scr []) (y := .lst []) (k := .frz) (k' := .fr) rfl rfl scr_nil)
  | cons i s =>
    refine ⟨i :: s, by simp, h, ?_⟩
    refine (ite_evE_t (cmp_to (x := .scr (i :: s)) (y := .lst []) (k := .frz) (k' := .fr) rfl rfl scr_cons)).trans ?_
    show ofO (slD (.scr (i :: s)) none (some 63)) = _
    show Res.ok (D.lst ((cutD (i :: s) none (some 63)).map .int), Kd.fr) = _
    have : cutD (i :: s) none (some 63) = i :: s := by
      unfold cutD
      have e1 : HT.sIx (i :: s).length 0 none = 0 := rfl
      have e2 : 63 ≤ HT.sIx (i :: s).length (i :: s).length (some 63) ∨ (i :: s).length ≤ HT.sIx (i :: s).length (i :: s).length (some 63) := by
        rw [show (63 : Int) = ((63 : Nat) : Int) from rfl, HT.sIx_nat]
        omega
      rw [e1]
      simp only [List.drop_zero, Nat.sub_zero]
      exact List.take_of_length_le (by omega)
    rw [this]
theorem cell_ev {l : List Int} {i : Int} (h : l ≠ []) : ∃ v : Int, ixD (.lst (l.map .int)) (.int (i % (l.length : Int))) = some (.int v) := by
  have hl : 0 < l.length := List.length_pos_iff.mpr h
  have h1 : 0 ≤ i % (l.length : Int) := Int.emod_nonneg _ (by omega)
  have h2 : i % (l.length : Int) < (l.length : Int) := Int.emod_lt_of_pos _ (by omega)
  obtain ⟨k, hk⟩ : ∃ k : Nat, i % (l.length : Int) = (k : Int) := ⟨(i % (l.length : Int)).toNat, by omega⟩
  rw [hk] at h2 ⊢
  have hk' : k < l.length := by omega
  refine ⟨l[k], ?_⟩
  exact atI_nat (by rw [List.getElem?_map, List.getElem?_eq_getElem hk']; rfl)
theorem sum_ev {cl : Nat → List D → Res (D × Kd)} {mk : Nat → List D → Res D} {e : Dv.Env} {a : M} {l : List Int} (ha : evE G cl mk a e = .ok (.lst (l.map .int), .frz)) : evE G cl mk (.blt .sum (.cons a .nil)) e = .ok (.int l.sum, .frz) := by
  refine blt1_ev ha ?_
  show ofO (match (l.map D.int).mapM intOf with | some ns => some (D.int ns.sum, Kd.frz) | none => none) = _
  rw [mapM_int]
  rfl
def en29 (ns : List Int) (i : Int) (c : List Int) (b : Bool) (a3 a4 a5 a6 a7 : Option (D × Bool)) : Dv.Env := [some (.scr ns, false), some (.int i, false), some (.lst (c.map .int), b), a3, a4, a5, a6, a7]
theorem d29_is : d29.body = .seq (.asg 2 it29) (.seq (.seq (.frz [2]) (.asg 3 (.bin .add (.ix (.slot 2) (.bin .mod (.blt .int (.cons (.slot 1) .nil)) (.blt .len (.cons (.slot 2) .nil)))) (.bin .mul (.cst (.int 13)) (.bin .fdiv (.slot 1) (.blt .len (.cons (.slot 2) .nil))))))) (.seq (.seq (.frz [3]) (.par 4 5 (.bin .mod (.blt .int (.cons (.slot 3) .nil)) (.cst (.int 1000003))) (.bin .mod (.blt .int (.cons (.bin .fdiv (.slot 3) (.cst (.int 1000003))) .nil)) (.cst (.int 999983))))) (.seq (.seq (.frz [2]) (.asg 6 (.bin .mod (.blt .int (.cons (.blt .sum (.cons (.slot 2) .nil)) .nil)) (.cst (.int 65521))))) (.seq (.seq (.frz [6]) (.asg 7 (.bin .mod (.blt .int (.cons (.bin .add (.bin .add (.bin .mul (.bin .add (.slot 4) (.bin .mul (.cst (.int 977)) (.slot 1))) (.cst (.int 48271))) (.bin .mul (.cst (.int 31)) (.slot 5))) (.slot 6)) .nil)) (.cst (.int 2147483647))))) (.seq (.seq (.frz [7]) (.ret (.bin .add (.bin .mul (.bin .mod (.blt .int (.cons (.bin .mul (.slot 7) (.bin .add (.bin .add (.slot 7) (.bin .mul (.cst (.int 31)) (.slot 1))) (.cst (.int 7)))) .nil)) (.cst (.int 2147483629))) (.cst (.int 65537))) (.slot 5)))) .done))))) := rfl
theorem F29 {n : Nat} {ns : List Int} {i : Int} (h : ns.length ≤ 63) (hi : 0 ≤ i ∧ i ≤ 100000) : ∃ v : Int, F (n + 1) 29 [.scr ns, .int i] = .ok (.int v, .frz) := by
  obtain ⟨c, hc, hl, ec⟩ := cells_ev (cl := F n) (mk := Mk n) h (r := [some (.int i, false), none, none, none, none, none, none])
  obtain ⟨v, ev⟩ := cell_ev (i := i) hc
  have hp : 0 < c.length := List.length_pos_iff.mpr hc
  have he : envOf d29.np d29.ns [.scr ns, .int i] = [some (.scr ns, false), some (.int i, false), none, none, none, none, none, none] := rfl
  rw [Fd (d := d29) rfl rfl, he, d29_is]
  rw [seq_nx (asg_ev ec (by decide) rfl)]
  rw [show ([some (D.scr ns, false), some (D.int i, false), none, none, none, none, none, none] : Dv.Env).set 2 (some (D.lst (c.map .int), isOwn .fr)) = en29 ns i c true none none none none none from rfl]
  have l1 : ∀ {b : Bool} {a3 a4 a5 a6 a7 : Option (D × Bool)}, evE G (F n) (Mk n) (.blt .len (.cons (.slot 2) .nil)) (en29 ns i c false a3 a4 a5 a6 a7) = .ok (.int c.length, .frz) := by
    intro b a3 a4 a5 a6 a7
    have := len_ev (slot_ev (cl := F n) (mk := Mk n) (e := en29 ns i c false a3 a4 a5 a6 a7) (i := 2) (d := .lst (c.map .int)) rfl)
    rw [List.length_map] at this
    exact this
  have q1 := l1 (b := true) (a3 := none) (a4 := none) (a5 := none) (a6 := none) (a7 := none)
  have e1 := mod_ev (int_ev (slot_ev (cl := F n) (mk := Mk n) (e := en29 ns i c false none none none none none) (i := 1) (d := .int i) rfl)) q1 (by omega)
  have e2 : evE G (F n) (Mk n) (.ix (.slot 2) (.bin .mod (.blt .int (.cons (.slot 1) .nil)) (.blt .len (.cons (.slot 2) .nil)))) (en29 ns i c false none none none none none) = .ok (.int v, .frz) := by
    show ((Res.ok (D.lst (c.map .int), Kd.frz)).bind fun x => (evE G (F n) (Mk n) (.bin .mod (.blt .int (.cons (.slot 1) .nil)) (.blt .len (.cons (.slot 2) .nil))) (en29 ns i c false none none none none none)).bind fun y => match ixD x.1 y.1 with
      | some d => Res.ok (d, Kd.frz)
      | none => _) = _
    rw [e1]
    show (match ixD (.lst (c.map .int)) (.int (i % (c.length : Int))) with
      | some d => Res.ok (d, Kd.frz)
      | none => _) = _
    rw [ev]
  have hq : 0 ≤ i / (c.length : Int) ∧ i / (c.length : Int) ≤ i := ⟨Int.ediv_nonneg hi.1 (by omega), Int.ediv_le_self _ hi.1⟩
  have e3 := fdiv_ev (slot_ev (cl := F n) (mk := Mk n) (e := en29 ns i c false none none none none none) (i := 1) (d := .int i) rfl) q1 (by omega) (by omega)
  have e4 := mul_ev (cst_ev (d := .int 13)) e3 (by omega) (by omega)
  have e5 := add_ev e2 e4
  generalize v + 13 * (i / (c.length : Int)) = cell at e5
  rw [seq_nx ((seq_nx (e1 := en29 ns i c false none none none none none) rfl).trans (asg_ev e5 (by decide) rfl))]
  rw [show (en29 ns i c false none none none none none).set 3 (some (.int cell, isOwn .frz)) = en29 ns i c false (some (.int cell, false)) none none none none from rfl]
  have f1 := mod_ev (int_ev (slot_ev (cl := F n) (mk := Mk n) (e := en29 ns i c false (some (.int cell, false)) none none none none) (i := 3) (d := .int cell) rfl)) (cst_ev (d := .int 1000003)) (by omega)
  have f2 := mod_ev (int_ev (fdiv_ev (slot_ev (cl := F n) (mk := Mk n) (e := en29 ns i c false (some (.int cell, false)) none none none none) (i := 3) (d := .int cell) rfl) (cst_ev (d := .int 1000003)) (by omega) (by omega))) (cst_ev (d := .int 999983)) (by omega)
  have lo : 0 ≤ cell % 1000003 ∧ cell % 1000003 < 1000003 := by omega
  have hi' : 0 ≤ cell / 1000003 % 999983 ∧ cell / 1000003 % 999983 < 999983 := by omega
  generalize cell % 1000003 = low at f1 lo
  generalize cell / 1000003 % 999983 = high at f2 hi'
  rw [seq_nx ((frz_seq rfl).trans (par_ev f1 f2))]
  rw [show ((en29 ns i c false (some (.int cell, false)) none none none none).set 4 (some (.int low, false))).set 5 (some (.int high, false)) = en29 ns i c false (some (.int cell, false)) (some (.int low, false)) (some (.int high, false)) none none from rfl]
  have g1 := mod_ev (int_ev (sum_ev (slot_ev (cl := F n) (mk := Mk n) (e := en29 ns i c false (some (.int cell, false)) (some (.int low, false)) (some (.int high, false)) none none) (i := 2) (d := .lst (c.map .int)) rfl))) (cst_ev (d := .int 65521)) (by omega)
  have ht : 0 ≤ c.sum % 65521 ∧ c.sum % 65521 < 65521 := by omega
  generalize c.sum % 65521 = total at g1 ht
  rw [seq_nx ((frz_seq rfl).trans (asg_ev g1 (by decide) rfl))]
  rw [show (en29 ns i c false (some (.int cell, false)) (some (.int low, false)) (some (.int high, false)) none none).set 6 (some (.int total, isOwn .frz)) = en29 ns i c false (some (.int cell, false)) (some (.int low, false)) (some (.int high, false)) (some (.int total, false)) none from rfl]
  have s1 := slot_ev (cl := F n) (mk := Mk n) (e := en29 ns i c false (some (.int cell, false)) (some (.int low, false)) (some (.int high, false)) (some (.int total, false)) none) (i := 1) (d := .int i) rfl
  have s4 := slot_ev (cl := F n) (mk := Mk n) (e := en29 ns i c false (some (.int cell, false)) (some (.int low, false)) (some (.int high, false)) (some (.int total, false)) none) (i := 4) (d := .int low) rfl
  have s5 := slot_ev (cl := F n) (mk := Mk n) (e := en29 ns i c false (some (.int cell, false)) (some (.int low, false)) (some (.int high, false)) (some (.int total, false)) none) (i := 5) (d := .int high) rfl
  have s6 := slot_ev (cl := F n) (mk := Mk n) (e := en29 ns i c false (some (.int cell, false)) (some (.int low, false)) (some (.int high, false)) (some (.int total, false)) none) (i := 6) (d := .int total) rfl
  have m1 := mul_ev (cst_ev (d := .int 977)) s1 (by omega) (by omega)
  have m2 := mul_ev (add_ev s4 m1) (cst_ev (d := .int 48271)) (by omega) (by omega)
  have m3 := mul_ev (cst_ev (d := .int 31)) s5 (by omega) (by omega)
  have m4 := mod_ev (int_ev (add_ev (add_ev m2 m3) s6)) (cst_ev (d := .int 2147483647)) (by omega)
  have hb : 0 ≤ ((low + 977 * i) * 48271 + 31 * high + total) % 2147483647 ∧ ((low + 977 * i) * 48271 + 31 * high + total) % 2147483647 < 2147483647 := by omega
  generalize ((low + 977 * i) * 48271 + 31 * high + total) % 2147483647 = blend at m4 hb
  rw [seq_nx ((frz_seq rfl).trans (asg_ev m4 (by decide) rfl))]
  rw [show (en29 ns i c false (some (.int cell, false)) (some (.int low, false)) (some (.int high, false)) (some (.int total, false)) none).set 7 (some (.int blend, isOwn .frz)) = en29 ns i c false (some (.int cell, false)) (some (.int low, false)) (some (.int high, false)) (some (.int total, false)) (some (.int blend, false)) from rfl]
  have t1 := slot_ev (cl := F n) (mk := Mk n) (e := en29 ns i c false (some (.int cell, false)) (some (.int low, false)) (some (.int high, false)) (some (.int total, false)) (some (.int blend, false))) (i := 1) (d := .int i) rfl
  have t5 := slot_ev (cl := F n) (mk := Mk n) (e := en29 ns i c false (some (.int cell, false)) (some (.int low, false)) (some (.int high, false)) (some (.int total, false)) (some (.int blend, false))) (i := 5) (d := .int high) rfl
  have t7 := slot_ev (cl := F n) (mk := Mk n) (e := en29 ns i c false (some (.int cell, false)) (some (.int low, false)) (some (.int high, false)) (some (.int total, false)) (some (.int blend, false))) (i := 7) (d := .int blend) rfl
  have r1 := mul_ev (cst_ev (d := .int 31)) t1 (by omega) (by omega)
  have r2 := mul_ev t7 (add_ev (add_ev t7 r1) (cst_ev (d := .int 7))) (by omega) (by omega)
  have r3 := mod_ev (int_ev r2) (cst_ev (d := .int 2147483629)) (by omega)
  generalize blend * (blend + 31 * i + 7) = p at r3
  have r4 := add_ev (mul_ev r3 (cst_ev (d := .int 65537)) (by omega) (by omega)) t5
  refine ⟨p % 2147483629 * 65537 + high, ?_⟩
  have fz : ∀ {s r : S} {e : Dv.Env}, frzE [7] e = e → fin (evS G (F n) (Mk n) 100 (.seq (.seq (.frz [7]) s) r) e) = fin (evS G (F n) (Mk n) 100 (.seq s r) e) := by
    intro s r e hz
    congr 1
    show (match evS G (F n) (Mk n) 100 (.seq (.frz [7]) s) e with
      | .nx e1 => evS G (F n) (Mk n) 100 r e1
      | o => o) = (match evS G (F n) (Mk n) 100 s e with
      | .nx e1 => evS G (F n) (Mk n) 100 r e1
      | o => o)
    rw [frz_seq hz]
  rw [fz rfl, fin_ret, r4]
  rfl
end K01
end
section
set_option Elab.async false
set_option linter.all false
set_option maxRecDepth 100000
open PySem Dv L2
namespace K01
section
variable {cl : Nat → List D → Res (D × Kd)} {mk : Nat → List D → Res D} {e : Dv.Env} {a b : M} {x y : Int}
theorem lt_ev (ha : evE G cl mk a e = .ok (.int x, .frz)) (hb : evE G cl mk b e = .ok (.int y, .frz)) : evE G cl mk (.cmp .lt a b) e = .ok (.bl (decide (x < y)), .frz) := cmp_to ha hb rfl
theorem gt_ev (ha : evE G cl mk a e = .ok (.int x, .frz)) (hb : evE G cl mk b e = .ok (.int y, .frz)) : evE G cl mk (.cmp .gt a b) e = .ok (.bl (decide (y < x)), .frz) := cmp_to ha hb rfl
theorem eqi_ev (ha : evE G cl mk a e = .ok (.int x, .frz)) (hb : evE G cl mk b e = .ok (.int y, .frz)) : evE G cl mk (.cmp .eq a b) e = .ok (.bl (decide (x = y)), .frz) := cmp_to ha hb rfl
theorem or_ev {p q : Bool} (ha : evE G cl mk a e = .ok (.bl p, .frz)) (hb : evE G cl mk b e = .ok (.bl q, .frz)) : evE G cl mk (.or a b) e = .ok (.bl (p || q), .frz) := by
  cases p with
  | false => exact (or_false ha).trans hb
  | true =>
    show ((evE G cl mk a e).bind fun x => match truth x.1 with
      | some true => .ok x
      | some false => evE G cl mk b e
      | none => .bad) = _
    rw [ha]
    rfl
theorem and_ev {p q : Bool} (ha : evE G cl mk a e = .ok (.bl p, .frz)) (hb : evE G cl mk b e = .ok (.bl q, .frz)) : evE G cl mk (.and a b) e = .ok (.bl (p && q), .frz) := by
  cases p with
  | true => exact (and_true ha).trans hb
  | false => exact and_false ha
theorem ix_ev {d : D} {i : Int} {r : D} (ha : evE G cl mk a e = .ok (d, .frz)) (hb : evE G cl mk b e = .ok (.int i, .frz)) (h : ixD d (.int i) = some r) : evE G cl mk (.ix a b) e = .ok (r, .frz) := by
  show ((evE G cl mk a e).bind fun x => (evE G cl mk b e).bind fun y => match ixD x.1 y.1 with
    | some d => Res.ok (d, Kd.frz)
    | none => _) = _
  rw [ha, hb]
  show (match ixD d (.int i) with
    | some d => Res.ok (d, Kd.frz)
    | none => _) = _
  rw [h]
theorem call_ev {f : Nat} {l : M} {ds : List D} (h : evE G cl mk l e = .ok (.lst ds, .frz)) : evE G cl mk (.call f l) e = cl f ds := by
  show ((evE G cl mk l e).bind fun x => callB cl x.2 f (itemsOf x.1)) = _
  rw [h]
  rfl
theorem ret_done {m : M} {r : S} {d : D} (h : evE G cl mk m e = .ok (d, .frz)) : evS G cl mk 100 (.seq (.ret m) r) e = .rt d .frz := by
  refine seq_rt ?_
  show Out.of (evE G cl mk m e) _ = _
  rw [h]
  rfl
theorem frz_ret {is : List Nat} {m : M} {r : S} {d : D} {e1 : Dv.Env} (hf : frzE is e = e1) (h : evE G cl mk m e1 = .ok (d, .frz)) : evS G cl mk 100 (.seq (.seq (.frz is) (.ret m)) r) e = .rt d .frz := by
  refine seq_rt ((seq_nx (e1 := e1) (by show Out.nx (frzE is e) = _; rw [hf])).trans ?_)
  show Out.of (evE G cl mk m e1) _ = _
  rw [h]
  rfl
theorem ins_toD (t : T) : insFr (toD t) .frz = false := by rw [toD_tup]; rfl
theorem asg_T {i : Nat} {m : M} {t : T} (h : evE G cl mk m e = .ok (toD t, .frz)) : evS G cl mk 100 (.asg i m) e = .nx (e.set i (some (toD t, false))) := asg_ev h (by decide) (ins_toD t)
end
def leavesD : D := .lst [toD (.lf true), toD (.lf false), toD (.num 0), toD (.num 2), toD (.col 0), toD (.col 1), toD (.kep 0), toD (.kep 1), toD (.num 1)]
def callsD : D := .lst [.int 0, .int 1, .int 2]
theorem leaf_at (v : Int) : ∃ t, ok t = true ∧ size t = 1 ∧ ixD leavesD (.int (v % 9)) = some (toD t) := by
  have h : v % 9 = 0 ∨ v % 9 = 1 ∨ v % 9 = 2 ∨ v % 9 = 3 ∨ v % 9 = 4 ∨ v % 9 = 5 ∨ v % 9 = 6 ∨ v % 9 = 7 ∨ v % 9 = 8 := by omega
  rcases h with h | h | h | h | h | h | h | h | h <;> rw [h] <;> exact ⟨_, rfl, rfl, rfl⟩
theorem call_at (v : Int) : ∃ k : Nat, k < 3 ∧ ixD callsD (.int (v % 3)) = some (.int k) := by
  have h : v % 3 = 0 ∨ v % 3 = 1 ∨ v % 3 = 2 := by omega
  rcases h with h | h | h <;> rw [h]
  · exact ⟨0, by omega, rfl⟩
  · exact ⟨1, by omega, rfl⟩
  · exact ⟨2, by omega, rfl⟩
theorem op_at (v : Int) : ∃ o : _root_.Fin 4, ixD (.tup [.str "sum", .str "less", .str "times", .str "same"]) (.int (v % 4)) = some (.str (binW o)) := by
  have h : v % 4 = 0 ∨ v % 4 = 1 ∨ v % 4 = 2 ∨ v % 4 = 3 := by omega
  rcases h with h | h | h | h <;> rw [h]
  · exact ⟨0, rfl⟩
  · exact ⟨1, rfl⟩
  · exact ⟨2, rfl⟩
  · exact ⟨3, rfl⟩
def en30 (ns : List Int) (at_ s : Int) (a5 a6 a7 a8 a9 a10 a11 a12 : Option (D × Bool)) : Dv.Env := [some (.scr ns, false), some (.int at_, false), some (.int s, false), some (leavesD, false), some (callsD, false), a5, a6, a7, a8, a9, a10, a11, a12]
section
variable {n : Nat} {ns : List Int} {at_ s : Int} {a5 a6 a7 a8 a9 a10 a11 a12 : Option (D × Bool)}
abbrev lv (m : M) : M := .ix (.slot 3) (.bin .mod (.blt .int (.cons m .nil)) (.blt .len (.cons (.slot 3) .nil)))
theorem lv_ev {m : M} {v : Int} {t : T} (h : evE G (F n) (Mk n) m (en30 ns at_ s a5 a6 a7 a8 a9 a10 a11 a12) = .ok (.int v, .frz)) (ht : ixD leavesD (.int (v % 9)) = some (toD t)) : evE G (F n) (Mk n) (lv m) (en30 ns at_ s a5 a6 a7 a8 a9 a10 a11 a12) = .ok (toD t, .frz) :=
  ix_ev (d := leavesD) (slot_ev rfl) (mod_ev (int_ev h) (y := 9) (len_ev (slot_ev (d := leavesD) rfl)) (by omega)) ht
/-- the row's own call -/
abbrev again (p q : M) : M := .call 30 (.cons (.slot 0) (.cons p (.cons q (.cons (.slot 3) (.cons (.slot 4) .nil)))))
theorem again_ev {p q : M} {x y : Int} (hp : evE G (F n) (Mk n) p (en30 ns at_ s a5 a6 a7 a8 a9 a10 a11 a12) = .ok (.int x, .frz)) (hq : evE G (F n) (Mk n) q (en30 ns at_ s a5 a6 a7 a8 a9 a10 a11 a12) = .ok (.int y, .frz)) : evE G (F n) (Mk n) (again p q) (en30 ns at_ s a5 a6 a7 a8 a9 a10 a11 a12) = F n 30 [.scr ns, .int x, .int y, leavesD, callsD] :=
  call_ev (cons_ev (slot_ev rfl) (by decide) (cons_ev hp (by decide) (cons_ev hq (by decide) (cons_ev (slot_ev rfl) (by decide) (cons_ev (slot_ev rfl) (by decide) nil_ev)))))
end
theorem F30 {ns : List Int} (hns : ns.length ≤ 63) : ∀ (s n : Nat) (at_ : Int), 1 ≤ s → s ≤ 12 → s + 1 ≤ n → 0 ≤ at_ → at_ + 40 * s ≤ 100000 → ∃ t, ok t = true ∧ size t ≤ s ∧ F n 30 [.scr ns, .int at_, .int s, leavesD, callsD] = .ok (toD t, .frz) := by
  intro s
  induction s using Nat.strongRecOn with
  | ind s ih =>
    intro n at_ h1 h2 h3 h4 h5
    obtain ⟨n, rfl⟩ : ∃ k, n = k + 2 := ⟨n - 2, by omega⟩
    obtain ⟨seed, e0⟩ := F29 (n := n) (i := at_) hns ⟨h4, by omega⟩
    have rec_ : ∀ (s' : Nat) (d : Int), 1 ≤ s' → s' < s → 0 ≤ d → d ≤ 29 → ∃ t, ok t = true ∧ size t ≤ s' ∧ F (n + 1) 30 [.scr ns, .int (at_ + d), .int s', leavesD, callsD] = .ok (toD t, .frz) := fun s' d a b c f => ih s' b (n + 1) (at_ + d) a (by omega) (by omega) (by omega) (by omega)
    suffices hh : ∃ t, ok t = true ∧ size t ≤ s ∧ evS G (F (n + 1)) (Mk (n + 1)) 100 d30.body (en30 ns at_ s none none none none none none none none) = .rt (toD t) .frz by
      obtain ⟨t, a, b, c⟩ := hh
      refine ⟨t, a, b, ?_⟩
      rw [Fd (d := d30) rfl rfl]
      have he : envOf d30.np d30.ns [.scr ns, .int at_, .int s, leavesD, callsD] = en30 ns at_ s none none none none none none none none := rfl
      rw [he, c]
      rfl
    have s1 : evS G (F (n + 1)) (Mk (n + 1)) 100 (.asg 5 (.blt .int (.cons (.call 29 (.cons (.slot 0) (.cons (.slot 1) .nil))) .nil))) (en30 ns at_ s none none none none none none none none) = .nx (en30 ns at_ s (some (.int seed, false)) none none none none none none none) :=
      asg_ev (int_ev ((call_ev (cons_ev (slot_ev rfl) (by decide) (cons_ev (slot_ev rfl) (by decide) nil_ev))).trans e0)) (by decide) rfl
    have sl5 : evE G (F (n + 1)) (Mk (n + 1)) (.slot 5) (en30 ns at_ s (some (.int seed, false)) none none none none none none none) = .ok (.int seed, .frz) := slot_ev rfl
    have sl2 : ∀ {a5 a6 a7 a8 a9 a10 a11 a12 : Option (D × Bool)}, evE G (F (n + 1)) (Mk (n + 1)) (.slot 2) (en30 ns at_ s a5 a6 a7 a8 a9 a10 a11 a12) = .ok (.int s, .frz) := slot_ev rfl
    have sl1 : ∀ {a5 a6 a7 a8 a9 a10 a11 a12 : Option (D × Bool)}, evE G (F (n + 1)) (Mk (n + 1)) (.slot 1) (en30 ns at_ s a5 a6 a7 a8 a9 a10 a11 a12) = .ok (.int at_, .frz) := slot_ev rfl
    have c1 := or_ev (lt_ev (sl2 (a5 := some (.int seed, false)) (a6 := none) (a7 := none) (a8 := none) (a9 := none) (a10 := none) (a11 := none) (a12 := none)) (cst_ev (d := .int 2))) (eqi_ev (mod_ev (int_ev sl5) (cst_ev (d := .int 7)) (by omega)) (cst_ev (d := .int 0)))
    have e7 := fdiv_ev sl5 (cst_ev (d := .int 7)) (by omega) (by omega)
    by_cases z1 : (decide ((s : Int) < 2) || decide (seed % 7 = 0)) = true
    · obtain ⟨t, ot, st, lt⟩ := leaf_at (seed / 7)
      refine ⟨t, ot, by omega, ?_⟩
      rw [z1] at c1
      refine (seq_nx s1).trans ?_
      refine seq_rt ((frz_seq rfl).trans ((ite_t c1).trans ?_))
      exact frz_ret rfl (lv_ev e7 lt)
    have z1' : (decide ((s : Int) < 2) || decide (seed % 7 = 0)) = false := by simpa using z1
    rw [z1'] at c1
    have hs2 : 2 ≤ s := by
      simp only [Bool.or_eq_false_iff, decide_eq_false_iff_not] at z1'
      omega
    have p1 := par_ev (i := 6) (j := 7) (mod_ev (int_ev e7) (cst_ev (d := .int 8)) (by omega)) (fdiv_ev sl5 (cst_ev (d := .int 56)) (by omega) (by omega))
    generalize seed / 7 % 8 = kind at p1
    generalize seed / 56 = rest at p1
    have s3 : evS G (F (n + 1)) (Mk (n + 1)) 100 (.par 6 7 (.bin .mod (.blt .int (.cons (.bin .fdiv (.slot 5) (.cst (.int 7))) .nil)) (.cst (.int 8))) (.bin .fdiv (.slot 5) (.cst (.int 56)))) (en30 ns at_ s (some (.int seed, false)) none none none none none none none) = .nx (en30 ns at_ s (some (.int seed, false)) (some (.int kind, false)) (some (.int rest, false)) none none none none none) := p1
    have sl7 : ∀ {a8 a9 a10 a11 a12 : Option (D × Bool)}, evE G (F (n + 1)) (Mk (n + 1)) (.slot 7) (en30 ns at_ s (some (.int seed, false)) (some (.int kind, false)) (some (.int rest, false)) a8 a9 a10 a11 a12) = .ok (.int rest, .frz) := slot_ev rfl
    have sl6 : ∀ {a8 a9 a10 a11 a12 : Option (D × Bool)}, evE G (F (n + 1)) (Mk (n + 1)) (.slot 6) (en30 ns at_ s (some (.int seed, false)) (some (.int kind, false)) (some (.int rest, false)) a8 a9 a10 a11 a12) = .ok (.int kind, .frz) := slot_ev rfl
    have c2 : evE G (F (n + 1)) (Mk (n + 1)) (.and (.cmp .ne (.slot 4) (.lst .nil)) (.or (.cmp .lt (.slot 6) (.cst (.int 3))) (.cmp .lt (.slot 2) (.cst (.int 3))))) (en30 ns at_ s (some (.int seed, false)) (some (.int kind, false)) (some (.int rest, false)) none none none none none) = .ok (.bl (decide (kind < 3) || decide ((s : Int) < 3)), .frz) :=
      (and_true (k := .frz) (by kernel_rfl)).trans (or_ev (lt_ev sl6 (cst_ev (d := .int 3))) (lt_ev sl2 (cst_ev (d := .int 3))))
    by_cases z2 : (decide (kind < 3) || decide ((s : Int) < 3)) = true
    · obtain ⟨k, hk, ek⟩ := call_at rest
      obtain ⟨t, ot, st, et⟩ := rec_ (s - 1) 1 (by omega) (by omega) (by omega) (by omega)
      have hs : ((s - 1 : Nat) : Int) = (s : Int) - 1 := by omega
      rw [hs] at et
      refine ⟨.cal k t, by simp [ok, hk, ot], by simp only [size]; omega, ?_⟩
      rw [z2] at c2
      refine (seq_nx s1).trans ((seq_nx ((frz_seq rfl).trans ((ite_f c1).trans rfl))).trans ((seq_nx ((frz_seq rfl).trans s3)).trans ?_))
      refine seq_rt ((ite_t c2).trans (ret_done (tup_ev (cons_ev cst_ev (by decide) (cons_ev (ix_ev (d := callsD) (slot_ev rfl) (mod_ev (int_ev sl7) (y := 3) (len_ev (slot_ev (d := callsD) rfl)) (by omega)) ek) (by decide) (cons_ev ((again_ev (add_ev sl1 (cst_ev (d := .int 1))) (sub_ev sl2 (cst_ev (d := .int 1)))).trans et) (by decide) nil_ev))))))
    have z2' : (decide (kind < 3) || decide ((s : Int) < 3)) = false := by simpa using z2
    rw [z2'] at c2
    have hs3 : 3 ≤ s := by
      simp only [Bool.or_eq_false_iff, decide_eq_false_iff_not] at z2'
      omega
    have c3 : evE G (F (n + 1)) (Mk (n + 1)) (.cmp .lt (.slot 2) (.cst (.int 3))) (en30 ns at_ s (some (.int seed, false)) (some (.int kind, false)) (some (.int rest, false)) none none none none none) = .ok (.bl false, .frz) :=
      (lt_ev sl2 (cst_ev (d := .int 3))).trans (by rw [decide_eq_false (by omega)])
    have c4 : evE G (F (n + 1)) (Mk (n + 1)) (.and (.cmp .eq (.slot 6) (.cst (.int 3))) (.cmp .gt (.slot 2) (.cst (.int 3)))) (en30 ns at_ s (some (.int seed, false)) (some (.int kind, false)) (some (.int rest, false)) none none none none none) = .ok (.bl (decide (kind = 3) && decide ((3 : Int) < (s : Int))), .frz) :=
      and_ev (eqi_ev sl6 (cst_ev (d := .int 3))) (gt_ev sl2 (cst_ev (d := .int 3)))
    have pre : ∀ {o : Out} {r : S}, evS G (F (n + 1)) (Mk (n + 1)) 100 (sndS (sndS (sndS (sndS (sndS d30.body))))) (en30 ns at_ s (some (.int seed, false)) (some (.int kind, false)) (some (.int rest, false)) none none none none none) = o → evS G (F (n + 1)) (Mk (n + 1)) 100 d30.body (en30 ns at_ s none none none none none none none none) = o := fun h =>
      (seq_nx s1).trans ((seq_nx ((frz_seq rfl).trans ((ite_f c1).trans rfl))).trans ((seq_nx ((frz_seq rfl).trans s3)).trans ((seq_nx ((ite_f c2).trans rfl)).trans ((seq_nx ((ite_f c3).trans rfl)).trans h))))
    by_cases z3 : (decide (kind = 3) && decide ((3 : Int) < (s : Int))) = true
    · rw [z3] at c4
      have hs4 : 3 < s := by
        simp only [Bool.and_eq_true, decide_eq_true_eq] at z3
        omega
      have hp : 1 ≤ (s - 1) / 3 ∧ 2 * ((s - 1) / 3) < s - 1 := by omega
      have hpi : ((s : Int) - 1) / 3 = (((s - 1) / 3 : Nat) : Int) := by omega
      obtain ⟨t0, o0, z0, e0'⟩ := rec_ ((s - 1) / 3) 1 (by omega) (by omega) (by omega) (by omega)
      obtain ⟨t1, o1, w1, e1'⟩ := rec_ ((s - 1) / 3) 15 (by omega) (by omega) (by omega) (by omega)
      obtain ⟨t2, o2, w2, e2'⟩ := rec_ (s - 1 - 2 * ((s - 1) / 3)) 29 (by omega) (by omega) (by omega) (by omega)
      have hs : ((s - 1 - 2 * ((s - 1) / 3) : Nat) : Int) = (s : Int) - 1 - 2 * (((s - 1) / 3 : Nat) : Int) := by omega
      rw [hs] at e2'
      refine ⟨.whn t0 t1 t2, by simp [ok, o0, o1, o2], by simp only [size]; omega, pre (r := .done) ?_⟩
      have f1 := fdiv_ev (sub_ev (sl2 (a5 := some (.int seed, false)) (a6 := some (.int kind, false)) (a7 := some (.int rest, false)) (a8 := none) (a9 := none) (a10 := none) (a11 := none) (a12 := none)) (cst_ev (d := .int 1))) (cst_ev (d := .int 3)) (by omega) (by omega)
      rw [hpi] at f1
      generalize (((s - 1) / 3 : Nat) : Int) = part at f1 e0' e1' e2' hpi
      have f2 : evS G (F (n + 1)) (Mk (n + 1)) 100 (.asg 8 (.bin .fdiv (.bin .sub (.slot 2) (.cst (.int 1))) (.cst (.int 3)))) (en30 ns at_ s (some (.int seed, false)) (some (.int kind, false)) (some (.int rest, false)) none none none none none) = .nx (en30 ns at_ s (some (.int seed, false)) (some (.int kind, false)) (some (.int rest, false)) (some (.int part, false)) none none none none) := asg_ev f1 (by decide) rfl
      have f3 : evS G (F (n + 1)) (Mk (n + 1)) 100 (.asg 9 (again (.bin .add (.slot 1) (.cst (.int 1))) (.slot 8))) (en30 ns at_ s (some (.int seed, false)) (some (.int kind, false)) (some (.int rest, false)) (some (.int part, false)) none none none none) = .nx (en30 ns at_ s (some (.int seed, false)) (some (.int kind, false)) (some (.int rest, false)) (some (.int part, false)) (some (toD t0, false)) none none none) :=
        asg_T ((again_ev (add_ev sl1 (cst_ev (d := .int 1))) (slot_ev rfl)).trans e0')
      have f4 : evS G (F (n + 1)) (Mk (n + 1)) 100 (.asg 10 (again (.bin .add (.slot 1) (.cst (.int 15))) (.slot 8))) (en30 ns at_ s (some (.int seed, false)) (some (.int kind, false)) (some (.int rest, false)) (some (.int part, false)) (some (toD t0, false)) none none none) = .nx (en30 ns at_ s (some (.int seed, false)) (some (.int kind, false)) (some (.int rest, false)) (some (.int part, false)) (some (toD t0, false)) (some (toD t1, false)) none none) :=
        asg_T ((again_ev (add_ev sl1 (cst_ev (d := .int 15))) (slot_ev rfl)).trans e1')
      have f5 : evE G (F (n + 1)) (Mk (n + 1)) (again (.bin .add (.slot 1) (.cst (.int 29))) (.bin .sub (.bin .sub (.slot 2) (.cst (.int 1))) (.bin .mul (.cst (.int 2)) (.slot 8)))) (en30 ns at_ s (some (.int seed, false)) (some (.int kind, false)) (some (.int rest, false)) (some (.int part, false)) (some (toD t0, false)) (some (toD t1, false)) none none) = .ok (toD t2, .frz) :=
        (again_ev (add_ev sl1 (cst_ev (d := .int 29))) (sub_ev (sub_ev sl2 (cst_ev (d := .int 1))) (mul_ev (cst_ev (d := .int 2)) (slot_ev rfl) (by omega) (by omega)))).trans e2'
      refine seq_rt ((frz_seq rfl).trans ((ite_t c4).trans ?_))
      refine (seq_nx f2).trans ((seq_nx ((frz_seq rfl).trans f3)).trans ((seq_nx ((frz_seq rfl).trans f4)).trans ?_))
      exact frz_ret rfl (tup_ev (cons_ev cst_ev (by decide) (cons_ev (slot_ev rfl) (by decide) (cons_ev (slot_ev rfl) (by decide) (cons_ev f5 (by decide) nil_ev)))))
    have z3' : (decide (kind = 3) && decide ((3 : Int) < (s : Int))) = false := by simpa using z3
    rw [z3'] at c4
    have g1 := add_ev (cst_ev (d := .int 1)) (mod_ev (int_ev (fdiv_ev (sl7 (a8 := none) (a9 := none) (a10 := none) (a11 := none) (a12 := none)) (cst_ev (d := .int 4)) (by omega) (by omega))) (sub_ev sl2 (cst_ev (d := .int 2))) (by omega))
    have hm : 0 ≤ rest / 4 % ((s : Int) - 2) ∧ rest / 4 % ((s : Int) - 2) < (s : Int) - 2 := ⟨Int.emod_nonneg _ (by omega), Int.emod_lt_of_pos _ (by omega)⟩
    obtain ⟨lf, hl⟩ : ∃ l : Nat, 1 + rest / 4 % ((s : Int) - 2) = (l : Int) := ⟨(1 + rest / 4 % ((s : Int) - 2)).toNat, by omega⟩
    rw [hl] at g1
    obtain ⟨t0, o0, z0, e0'⟩ := rec_ lf 1 (by omega) (by omega) (by omega) (by omega)
    obtain ⟨t1, o1, w1, e1'⟩ := rec_ (s - 1 - lf) (2 + lf) (by omega) (by omega) (by omega) (by omega)
    have hs : ((s - 1 - lf : Nat) : Int) = (s : Int) - 1 - (lf : Int) := by omega
    have ha : at_ + (2 + (lf : Int)) = at_ + 2 + (lf : Int) := by omega
    rw [hs, ha] at e1'
    obtain ⟨o, eo⟩ := op_at rest
    refine ⟨.bin o t0 t1, by simp [ok, o0, o1], by simp only [size]; omega, pre (r := .done) ?_⟩
    have g2 : evS G (F (n + 1)) (Mk (n + 1)) 100 (.asg 11 (.bin .add (.cst (.int 1)) (.bin .mod (.blt .int (.cons (.bin .fdiv (.slot 7) (.cst (.int 4))) .nil)) (.bin .sub (.slot 2) (.cst (.int 2)))))) (en30 ns at_ s (some (.int seed, false)) (some (.int kind, false)) (some (.int rest, false)) none none none none none) = .nx (en30 ns at_ s (some (.int seed, false)) (some (.int kind, false)) (some (.int rest, false)) none none none (some (.int lf, false)) none) := asg_ev g1 (by decide) rfl
    have g3 : evS G (F (n + 1)) (Mk (n + 1)) 100 (.asg 10 (again (.bin .add (.slot 1) (.cst (.int 1))) (.slot 11))) (en30 ns at_ s (some (.int seed, false)) (some (.int kind, false)) (some (.int rest, false)) none none none (some (.int lf, false)) none) = .nx (en30 ns at_ s (some (.int seed, false)) (some (.int kind, false)) (some (.int rest, false)) none none (some (toD t0, false)) (some (.int lf, false)) none) :=
      asg_T ((again_ev (add_ev sl1 (cst_ev (d := .int 1))) (slot_ev rfl)).trans e0')
    have g4 : evS G (F (n + 1)) (Mk (n + 1)) 100 (.asg 12 (again (.bin .add (.bin .add (.slot 1) (.cst (.int 2))) (.slot 11)) (.bin .sub (.bin .sub (.slot 2) (.cst (.int 1))) (.slot 11)))) (en30 ns at_ s (some (.int seed, false)) (some (.int kind, false)) (some (.int rest, false)) none none (some (toD t0, false)) (some (.int lf, false)) none) = .nx (en30 ns at_ s (some (.int seed, false)) (some (.int kind, false)) (some (.int rest, false)) none none (some (toD t0, false)) (some (.int lf, false)) (some (toD t1, false))) :=
      asg_T ((again_ev (add_ev (add_ev sl1 (cst_ev (d := .int 2))) (slot_ev rfl)) (sub_ev (sub_ev sl2 (cst_ev (d := .int 1))) (slot_ev rfl))).trans e1')
    refine (seq_nx ((frz_seq rfl).trans ((ite_f c4).trans rfl))).trans ((seq_nx g2).trans ((seq_nx ((frz_seq rfl).trans g3)).trans ((seq_nx ((frz_seq rfl).trans g4)).trans ?_)))
    have hop : evE G (F (n + 1)) (Mk (n + 1)) (.ix (.tup (.cons (.cst (.str "sum")) (.cons (.cst (.str "less")) (.cons (.cst (.str "times")) (.cons (.cst (.str "same")) .nil))))) (.bin .mod (.blt .int (.cons (.slot 7) .nil)) (.cst (.int 4)))) (en30 ns at_ s (some (.int seed, false)) (some (.int kind, false)) (some (.int rest, false)) none none (some (toD t0, false)) (some (.int lf, false)) (some (toD t1, false))) = .ok (.str (binW o), .frz) :=
      ix_ev (by kernel_rfl) (mod_ev (int_ev sl7) (cst_ev (d := .int 4)) (by omega)) eo
    exact frz_ret rfl (tup_ev (cons_ev hop (by decide) (cons_ev (slot_ev rfl) (by decide) (cons_ev (slot_ev rfl) (by decide) nil_ev))))
end K01
end
section
set_option Elab.async false
set_option linter.all false
set_option maxRecDepth 100000
open PySem Dv L2
namespace K01
theorem forL_inv {b : Dv.Env → Out} {tg : List Nat} {P : Dv.Env → Prop} : ∀ (l : List D), (∀ d ∈ l, ∀ e, P e → ∃ e1 e2, bindT tg d e = some e1 ∧ b e1 = .nx e2 ∧ P e2) → ∀ e, P e → ∃ e', forL b tg l e = .nx e' ∧ P e'
  | [], _, e, h => ⟨e, rfl, h⟩
  | d :: r, hb, e, h => by
    obtain ⟨e1, e2, h1, h2, h3⟩ := hb d (by simp) e h
    obtain ⟨e', h4, h5⟩ := forL_inv r (fun d hd => hb d (List.mem_cons_of_mem _ hd)) e2 h3
    exact ⟨e', (forL_nx h1 h2).trans h4, h5⟩
theorem F31 {n : Nat} {ns : List Int} {s at_ : Int} {t : T} (h : F n 30 [.scr ns, .int at_, .int s, leavesD, callsD] = .ok (toD t, .frz)) : F (n + 1) 31 [.scr ns, .int at_, .int s] = .ok (toD t, .frz) := by
  have he : envOf d31.np d31.ns [.scr ns, .int at_, .int s] = [some (.scr ns, false), some (.int at_, false), some (.int s, false), none] := rfl
  have q : evS G (F n) (Mk n) 100 d31.body [some (.scr ns, false), some (.int at_, false), some (.int s, false), none] = .rt (toD t) .frz := by
    refine (seq_nx (e1 := [some (.scr ns, false), some (.int at_, false), some (.int s, false), some (.lst [toD (.lf true), toD (.lf false), toD (.num 0), toD (.num 2), toD (.col 0), toD (.col 1)], true)]) (by kernel_rfl)).trans ?_
    refine (seq_nx (e1 := [some (.scr ns, false), some (.int at_, false), some (.int s, false), some (leavesD, true)]) (by kernel_rfl)).trans ?_
    refine frz_ret (e1 := [some (.scr ns, false), some (.int at_, false), some (.int s, false), some (leavesD, false)]) rfl ?_
    exact (call_ev (ds := [.scr ns, .int at_, .int s, leavesD, callsD]) (by kernel_rfl)).trans h
  rw [Fd (d := d31) rfl rfl, he, q]
  rfl
def en37 (ns : List Int) (l : List D) (b1 : Bool) (a2 a3 a4 a5 a6 a7 a8 a9 : Option (D × Bool)) : Dv.Env := [some (.scr ns, false), some (.lst l, b1), a2, a3, a4, a5, a6, a7, a8, a9, none, none, none, none, none]
def lb37 : S := forS (fstS (sndS d37.body))
def all12 (ts : List T) : Prop := ∀ t ∈ ts, ok t = true ∧ size t ≤ 12
theorem lb37_ev {ns : List Int} (hns : ns.length ≤ 63) {k : Nat} (hk : k < 6) {ts : List T} (hl : ts.length ≤ 10) {a3 a4 a5 a6 a7 a8 a9 : Option (D × Bool)} : ∃ t m, (ok t = true ∧ size t ≤ 12) ∧ evS G (F 20) (Mk 20) 100 lb37 (en37 ns (ts.map toD) true (some (.int k, false)) a3 a4 a5 a6 a7 a8 a9) = .nx (en37 ns ((ts ++ [t]).map toD) true (some (.int k, false)) (some (.int m, false)) a4 a5 a6 a7 a8 a9) := by
  obtain ⟨m, hm, em⟩ : ∃ m : Int, (2 ≤ m ∧ m ≤ 12) ∧ ixD (.tup [.int 2, .int 5, .int 6, .int 11, .int 12, .int 12]) (.int (k : Int)) = some (.int m) := by
    have : k = 0 ∨ k = 1 ∨ k = 2 ∨ k = 3 ∨ k = 4 ∨ k = 5 := by omega
    rcases this with rfl | rfl | rfl | rfl | rfl | rfl
    · exact ⟨2, by omega, rfl⟩
    · exact ⟨5, by omega, rfl⟩
    · exact ⟨6, by omega, rfl⟩
    · exact ⟨11, by omega, rfl⟩
    · exact ⟨12, by omega, rfl⟩
    · exact ⟨12, by omega, rfl⟩
  obtain ⟨v, ev⟩ := F29 (n := 19) (i := 300 + (k : Int)) hns ⟨by omega, by omega⟩
  have hv : 0 ≤ v % m ∧ v % m < m := ⟨Int.emod_nonneg _ (by omega), Int.emod_lt_of_pos _ (by omega)⟩
  obtain ⟨s, hs⟩ : ∃ s : Nat, 1 + v % m = (s : Int) := ⟨(1 + v % m).toNat, by omega⟩
  obtain ⟨t, ot, st, et⟩ := F30 hns s 19 (40 * (k : Int)) (by omega) (by omega) (by omega) (by omega) (by omega)
  refine ⟨t, m, ⟨ot, by omega⟩, ?_⟩
  have s1 : evS G (F 20) (Mk 20) 100 (.asg 3 (.ix (.tup (.cons (.cst (.int 2)) (.cons (.cst (.int 5)) (.cons (.cst (.int 6)) (.cons (.cst (.int 11)) (.cons (.cst (.int 12)) (.cons (.cst (.int 12)) .nil))))))) (.slot 2))) (en37 ns (ts.map toD) true (some (.int k, false)) a3 a4 a5 a6 a7 a8 a9) = .nx (en37 ns (ts.map toD) true (some (.int k, false)) (some (.int m, false)) a4 a5 a6 a7 a8 a9) :=
    asg_ev (ix_ev (by kernel_rfl) (slot_ev rfl) em) (by decide) rfl
  have sl0 := slot_ev (cl := F 20) (mk := Mk 20) (e := en37 ns (ts.map toD) true (some (.int k, false)) (some (.int m, false)) a4 a5 a6 a7 a8 a9) (i := 0) (d := .scr ns) rfl
  have sl2 := slot_ev (cl := F 20) (mk := Mk 20) (e := en37 ns (ts.map toD) true (some (.int k, false)) (some (.int m, false)) a4 a5 a6 a7 a8 a9) (i := 2) (d := .int k) rfl
  have sl3 := slot_ev (cl := F 20) (mk := Mk 20) (e := en37 ns (ts.map toD) true (some (.int k, false)) (some (.int m, false)) a4 a5 a6 a7 a8 a9) (i := 3) (d := .int m) rfl
  have n1 := (call_ev (f := 29) (cons_ev sl0 (by decide) (cons_ev (add_ev (cst_ev (d := .int 300)) sl2) (by decide) nil_ev))).trans ev
  have n2 := add_ev (cst_ev (d := .int 1)) (mod_ev (int_ev n1) sl3 (by omega))
  rw [hs] at n2
  have n3 := (call_ev (f := 31) (cons_ev sl0 (by decide) (cons_ev (mul_ev (cst_ev (d := .int 40)) sl2 (by omega) (by omega)) (by decide) (cons_ev n2 (by decide) nil_ev)))).trans (F31 et)
  have s2 : evS G (F 20) (Mk 20) 100 (.app 1 (.call 31 (.cons (.slot 0) (.cons (.bin .mul (.cst (.int 40)) (.slot 2)) (.cons (.bin .add (.cst (.int 1)) (.bin .mod (.blt .int (.cons (.call 29 (.cons (.slot 0) (.cons (.bin .add (.cst (.int 300)) (.slot 2)) .nil))) .nil)) (.slot 3))) .nil))))) (en37 ns (ts.map toD) true (some (.int k, false)) (some (.int m, false)) a4 a5 a6 a7 a8 a9) = .nx (en37 ns ((ts ++ [t]).map toD) true (some (.int k, false)) (some (.int m, false)) a4 a5 a6 a7 a8 a9) := by
    have g : getE (en37 ns (ts.map toD) true (some (.int k, false)) (some (.int m, false)) a4 a5 a6 a7 a8 a9) 1 = some (.lst (ts.map toD), true) := rfl
    unfold evS
    rw [g]
    dsimp only
    rw [if_pos (by rw [List.length_map]; have := line; omega), n3]
    unfold Out.of
    dsimp only
    rw [if_neg (by decide), List.map_append]
    rfl
  exact (seq_nx s1).trans ((seq_nx s2).trans rfl)
theorem trees_ev {ns : List Int} (hns : ns.length ≤ 63) {a4 a5 a6 a7 a8 a9 : Option (D × Bool)} : ∀ (ks : List Nat) (ts : List T) (a2 a3 : Option (D × Bool)), (∀ k ∈ ks, k < 6) → ts.length + ks.length ≤ 10 → all12 ts → ∃ ts' a2' a3', all12 ts' ∧ ts'.length ≤ 10 ∧ forL (evS G (F 20) (Mk 20) 100 lb37) [2] (ks.map fun k => .int ((k : Nat) : Int)) (en37 ns (ts.map toD) true a2 a3 a4 a5 a6 a7 a8 a9) = .nx (en37 ns (ts'.map toD) true a2' a3' a4 a5 a6 a7 a8 a9)
  | [], ts, a2, a3, _, hl, h => ⟨ts, a2, a3, h, by simpa using hl, rfl⟩
  | k :: ks, ts, a2, a3, hk, hl, h => by
    simp only [List.length_cons] at hl
    obtain ⟨t, m, ht, e⟩ := lb37_ev hns (hk k (by simp)) (ts := ts) (by omega) (a3 := a3) (a4 := a4) (a5 := a5) (a6 := a6) (a7 := a7) (a8 := a8) (a9 := a9)
    obtain ⟨ts', a2', a3', h1, h2, h3⟩ := trees_ev hns ks (ts ++ [t]) (some (.int k, false)) (some (.int m, false)) (fun k hk' => hk k (List.mem_cons_of_mem _ hk')) (by simp; omega) (by
      intro u hu
      rcases List.mem_append.mp hu with q | q
      · exact h u q
      · rw [List.mem_singleton] at q; rw [q]; exact ht) (a4 := a4) (a5 := a5) (a6 := a6) (a7 := a7) (a8 := a8) (a9 := a9)
    exact ⟨ts', a2', a3', h1, h2, (forL_nx rfl e).trans h3⟩
theorem zip_same {ts : List T} : zipD [.lst (ts.map FI), .lst (ts.map toD)] = some (ts.map fun t => .tup [FI t, toD t]) := by
  show some (((ts.map FI).zip (ts.map toD)).map fun p => D.tup [p.1, p.2]) = _
  congr 1
  induction ts with
  | nil => rfl
  | cons t r ih => rw [List.map_cons, List.map_cons, List.zip_cons_cons, List.map_cons, ih, List.map_cons]
theorem zip_ev {cl : Nat → List D → Res (D × Kd)} {mk : Nat → List D → Res D} {e : Dv.Env} {a b : M} {l l' r : List D} (h : evE G cl mk a e = .ok (.lst l, .frz)) (h' : evE G cl mk b e = .ok (.lst l', .frz)) (hz : zipD [.lst l, .lst l'] = some r) : evE G cl mk (.zip (.cons a (.cons b .nil))) e = .ok (.lst r, .frz) := by
  show ((evE G cl mk (.cons a (.cons b .nil)) e).bind fun x => if x.2 = .bor then .bad else match zipD (itemsOf x.1) with | some l => Res.ok (D.lst l, Kd.frz) | none => .bad) = _
  rw [cons_ev h (by decide) (cons_ev h' (by decide) nil_ev)]
  show (if Kd.frz = .bor then Res.bad else match zipD [.lst l, .lst l'] with | some l => Res.ok (D.lst l, Kd.frz) | none => .bad) = _
  rw [if_neg (by decide), hz]
def en37' (ns : List Int) (ts : List T) (a2 a3 a5 a6 a7 a8 a9 : Option (D × Bool)) : Dv.Env := en37 ns (ts.map toD) false a2 a3 (some (.lst (ts.map FI), false)) a5 a6 a7 a8 a9
def c37 : S := forS (sndS (fstS (sndS (sndS (sndS d37.body)))))
def i37 : S := forS (sndS (fstS (sndS c37)))
theorem i37_ev {ns : List Int} {ts : List T} {t u : T} {a2 a3 a5 : Option (D × Bool)} (ht : ok t = true ∧ size t ≤ 12) (hu : ok u = true ∧ size u ≤ 12) : evS G (F 20) (Mk 20) 100 i37 (en37' ns ts a2 a3 a5 (some (FI t, false)) (some (toD t, false)) (some (FI u, false)) (some (toD u, false))) = .nx (en37' ns ts a2 a3 a5 (some (FI t, false)) (some (toD t, false)) (some (FI u, false)) (some (toD u, false))) := by
  have e := not_ev ((call_ev (f := 36) (cons_ev (slot_ev (cl := F 20) (mk := Mk 20) (e := en37' ns ts a2 a3 a5 (some (FI t, false)) (some (toD t, false)) (some (FI u, false)) (some (toD u, false))) (i := 6) rfl) (by decide) (cons_ev (slot_ev (i := 7) rfl) (by decide) (cons_ev (slot_ev (i := 8) rfl) (by decide) (cons_ev (slot_ev (i := 9) rfl) (by decide) nil_ev))))).trans (F36 (n := 4) ht.1 ht.2 hu.1 hu.2))
  exact (seq_nx ((ite_f e).trans rfl)).trans rfl
theorem c37_ev {ns : List Int} {ts : List T} {t : T} {a2 a3 a5 a8 a9 : Option (D × Bool)} (h : all12 ts) (ht : ok t = true ∧ size t ≤ 12) : ∃ a8' a9', evS G (F 20) (Mk 20) 100 c37 (en37' ns ts a2 a3 a5 (some (FI t, false)) (some (toD t, false)) a8 a9) = .nx (en37' ns ts a2 a3 a5 (some (FI t, false)) (some (toD t, false)) a8' a9') := by
  have l67 := fun f => call_ev (f := f) (cons_ev (slot_ev (cl := F 20) (mk := Mk 20) (e := en37' ns ts a2 a3 a5 (some (FI t, false)) (some (toD t, false)) a8 a9) (i := 6) (d := FI t) rfl) (by decide) (cons_ev (slot_ev (i := 7) (d := toD t) rfl) (by decide) nil_ev))
  have e1 := not_ev ((l67 34).trans (F34 (n := 4) ht.1 ht.2))
  have e2 := not_ev ((l67 35).trans (F35 (n := 4) ht.1 ht.2))
  have em : evE G (F 20) (Mk 20) (.make 0 (.cons (.slot 7) .nil)) (en37' ns ts a2 a3 a5 (some (FI t, false)) (some (toD t, false)) a8 a9) = .ok (FI t, .frz) := by
    have q : evE G (F 20) (Mk 20) (.make 0 (.cons (.slot 7) .nil)) (en37' ns ts a2 a3 a5 (some (FI t, false)) (some (toD t, false)) a8 a9) = (Mk 20 0 [toD t]).bind fun d => .ok (d, .frz) := by kernel_rfl
    rw [q, MkT (n := 15) ht.1]
    unfold mkR
    rw [if_pos ht.2]
    rfl
  have e3 : evE G (F 20) (Mk 20) (.cmp .ne (.slot 6) (.make 0 (.cons (.slot 7) .nil))) (en37' ns ts a2 a3 a5 (some (FI t, false)) (some (toD t, false)) a8 a9) = .ok (.bl false, .frz) :=
    cmp_to (slot_ev (d := FI t) rfl) em ((neFI (n := 19) rfl (by omega) (by omega)).trans (by rw [eqT'_self (by omega)]; rfl))
  have s1 := (or_false e1).trans ((or_false e2).trans e3)
  have z : evE G (F 20) (Mk 20) (.zip (.cons (.slot 4) (.cons (.slot 1) .nil))) (en37' ns ts a2 a3 a5 (some (FI t, false)) (some (toD t, false)) a8 a9) = .ok (.lst (ts.map fun t => .tup [FI t, toD t]), .frz) := zip_ev (slot_ev rfl) (slot_ev rfl) zip_same
  obtain ⟨e', f1, a8', a9', f2⟩ := forL_inv (b := evS G (F 20) (Mk 20) 100 i37) (tg := [8, 9]) (P := fun e => ∃ a8 a9, e = en37' ns ts a2 a3 a5 (some (FI t, false)) (some (toD t, false)) a8 a9) (ts.map fun t => .tup [FI t, toD t]) (by
    rintro d hd e ⟨b8, b9, rfl⟩
    obtain ⟨u, hu, rfl⟩ := List.mem_map.mp hd
    exact ⟨_, _, rfl, i37_ev (ts := ts) ht (h u hu), _, _, rfl⟩) _ ⟨a8, a9, rfl⟩
  subst f2
  refine ⟨a8', a9', ?_⟩
  refine (seq_nx ((ite_f s1).trans rfl)).trans ?_
  refine (seq_nx ((frz_seq rfl).trans ((for_ev z (by decide) rfl).trans f1))).trans rfl
def r37 : S := sndS (sndS (sndS (sndS d37.body)))
theorem r37_ev {ns : List Int} {ts : List T} {a2 a3 a5 a6 a7 a8 a9 : Option (D × Bool)} : ∃ kd, evS G (F 20) (Mk 20) 100 r37 (en37' ns ts a2 a3 a5 a6 a7 a8 a9) = .rt (.bl true) kd := ⟨.frz, by kernel_rfl⟩
theorem lw (ns : List Int) (h : ns.length ≤ 63) : ∃ kd, evS G (F 20) (Mk 20) 100 d37.body (envOf d37.np d37.ns [.scr ns]) = .rt (.bl true) kd := by
  have he : envOf d37.np d37.ns [.scr ns] = [some (.scr ns, false), none, none, none, none, none, none, none, none, none, none, none, none, none, none] := rfl
  rw [he]
  obtain ⟨ts, a2, a3, h12, _, e1⟩ := trees_ev h [0, 1, 2, 3, 4, 5] [] none none (by decide) (by decide) (by intro t ht; cases ht) (a4 := none) (a5 := none) (a6 := none) (a7 := none) (a8 := none) (a9 := none)
  have s1 : evS G (F 20) (Mk 20) 100 (.for_ [2] (.rng (.cons (.cst (.int 6)) .nil)) lb37) (en37 ns (([] : List T).map toD) true none none none none none none none none) = .nx (en37 ns (ts.map toD) true a2 a3 none none none none none none) :=
    (for_ev (d := .lst ([0, 1, 2, 3, 4, 5].map fun k => .int ((k : Nat) : Int))) (k := .frz) (by kernel_rfl) (by decide) rfl).trans e1
  have c : compL (evE G (F 20) (Mk 20) (.cst (.bl true))) (evE G (F 20) (Mk 20) (.make 0 (.cons (.slot 5) .nil))) [5] (wipeE (en37 ns (ts.map toD) false a2 a3 none none none none none none) [5]) (ts.map toD) = .ok ((ts.filter fun _ => true).map FI) :=
    compL_T (f := fun _ => true) (en := fun x => en37 ns (ts.map toD) false a2 a3 none (some (toD x, false)) none none none none) ts (fun x _ => rfl) (fun x _ => ⟨.frz, rfl⟩) (fun x hx _ => by
      have q : evE G (F 20) (Mk 20) (.make 0 (.cons (.slot 5) .nil)) (en37 ns (ts.map toD) false a2 a3 none (some (toD x, false)) none none none none) = (Mk 20 0 [toD x]).bind fun d => .ok (d, .frz) := by kernel_rfl
      rw [q, MkT (n := 15) (h12 x hx).1]
      unfold mkR
      rw [if_pos (h12 x hx).2]
      rfl)
  have hf : (ts.filter fun _ => true) = ts := List.filter_eq_self.mpr (fun _ _ => rfl)
  rw [hf] at c
  have e2 := comp_evE (vs := [5]) (slot_ev (cl := F 20) (mk := Mk 20) (e := en37 ns (ts.map toD) false a2 a3 none none none none none none) (i := 1) (d := .lst (ts.map toD)) rfl) (by decide) rfl (by rw [List.length_map]; omega) c
  have s2 : evS G (F 20) (Mk 20) 100 (.seq (.frz [1]) (.asg 4 (.comp [5] [5] (.slot 1) (.cst (.bl true)) (.make 0 (.cons (.slot 5) .nil))))) (en37 ns (ts.map toD) true a2 a3 none none none none none none) = .nx (en37 ns (ts.map toD) false a2 a3 (some (.lst (ts.map FI), true)) none none none none none) :=
    (seq_nx (e1 := en37 ns (ts.map toD) false a2 a3 none none none none none none) rfl).trans (asg_ev e2 (by decide) rfl)
  have z : evE G (F 20) (Mk 20) (.zip (.cons (.slot 4) (.cons (.slot 1) .nil))) (en37' ns ts a2 a3 none none none none none) = .ok (.lst (ts.map fun t => .tup [FI t, toD t]), .frz) := zip_ev (slot_ev rfl) (slot_ev rfl) zip_same
  obtain ⟨e', f1, a6', a7', a8', a9', f2⟩ := forL_inv (b := evS G (F 20) (Mk 20) 100 c37) (tg := [6, 7]) (P := fun e => ∃ a6 a7 a8 a9, e = en37' ns ts a2 a3 none a6 a7 a8 a9) (ts.map fun t => .tup [FI t, toD t]) (by
    rintro d hd e ⟨b6, b7, b8, b9, rfl⟩
    obtain ⟨u, hu, rfl⟩ := List.mem_map.mp hd
    obtain ⟨a8', a9', q⟩ := c37_ev (ns := ns) (a2 := a2) (a3 := a3) (a5 := none) (a8 := b8) (a9 := b9) h12 (h12 u hu)
    exact ⟨_, _, rfl, q, _, _, _, _, rfl⟩) _ ⟨none, none, none, none, rfl⟩
  subst f2
  obtain ⟨kd, er⟩ := r37_ev (ns := ns) (ts := ts) (a2 := a2) (a3 := a3) (a5 := none) (a6 := a6') (a7 := a7') (a8 := a8') (a9 := a9')
  refine ⟨kd, ?_⟩
  refine (seq_nx (e1 := en37 ns (([] : List T).map toD) true none none none none none none none none) rfl).trans ?_
  refine (seq_nx s1).trans ((seq_nx s2).trans ?_)
  refine (seq_nx ((seq_nx (e1 := en37' ns ts a2 a3 none none none none none) rfl).trans ((for_ev z (by decide) rfl).trans f1))).trans er
end K01
end
set_option Elab.async false
set_option maxRecDepth 100000 in
set_option maxHeartbeats 0 in
theorem PySem.Challenge.cw_keptmeanings_k01_whole_forms_holds : PySem.Challenge.rw_keptmeanings_k01_whole_forms.Holds := by
  exact K01.of_law K01.lw

