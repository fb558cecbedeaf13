import PyProof.Rows.All
import Wide.All
import OpenK.AllK
import Wide.FinOn
import HandS.ForMost
import HandS.Wide
import HandS.Walk
import HandS.Zip
import HandS.IsInst
import HandS.Defaults
import HandS.Style
import HandS.Deep
import HandS.FStrTup
import Flt.Len
import PyProof.ReprRoads
import PyProof.NoPylong
import HandS.ExcOwn
import HandS.ExcIs
import HandS.ExcValue
import HandS.WordsExc
import KE.KExcIs
import HandS.TupLe
import PyProof.P3In
import HandS.ExcInit
import KE.KExcSuper
import HandS.Star
import HandS.Small
import KE.DataFind
import HandS.StrMore
import HandS.FStr
import HandS.WideBits
import HandS.RevTup
import HandS.Rev
import HandS.SortKw
import KE.DataMinMax
import HandS.Codes
import KE.IntTextLaws
import HandS.TryOnly
import HandS.DictComp
import HandS.Conv
import HandS.SetFor
import HandS.Strs
import PyProof.Rows.ListMulR
import HandS.TupAny
import PyProof.ExcBaseAll.LookupError
import PyProof.ExcBaseAll.ZeroDivisionError
import PySem.Challenge.RW_downweigh_k61_rounds_looked_at
set_option Elab.async false
set_option linter.all false
set_option maxRecDepth 100000
set_option maxHeartbeats 4000000
namespace DL
open PySem PySem.Spec PyProof.Rows L2

def dctK (kvs : List (Str × Int)) : List (Key × V) := kvs.map fun kv => (.inr kv.1, .int kv.2)
inductive D where
  | non
  | bl (b : Bool)
  | int (i : Int)
  | str (x : Str)
  | lst (xs : List D)
  | tup (xs : List D)
  | fro (xs : List D)
  | edic
  | dct (kvs : List (Str × Int))
  | opq (v : V)
  | exc (c : Str) (ns : List Str) (xs : List D)

def Sub (H H' : Hp) : Prop := ∀ b o, H b = some o → H' b = some o
theorem Sub.refl (H : Hp) : Sub H H := fun _ _ h => h
theorem Sub.trans {H H1 H2 : Hp} (a : Sub H H1) (b : Sub H1 H2) : Sub H H2 := fun c o h => b c o (a c o h)
theorem Sub.new {H : Hp} {p : Addr} {o : HO} (h : H p = none) : Sub H (upd H p o) := fun b u e => by
  rw [upd_ne (ne_of_none e h)]; exact e
theorem Sub.none {H H' : Hp} (s : Sub H H') {p : Addr} (h : H' p = none) : H p = none := by
  cases e : H p with
  | none => rfl
  | some o => rw [s p o e] at h; cases h
theorem Sub.sqL {K : PySem.W.Frag} {H H' : Hp} {a : Addr} {xs : List V} (e : Sub H H') (h : SqL K H a xs) : SqL K H' a xs := by
  rcases h with (h | ⟨o, h⟩) | h
  · exact .inl (.inl (e _ _ h))
  · exact .inl (.inr ⟨o, e _ _ h⟩)
  · exact .inr h
theorem Sub.sqT {K : PySem.W.Frag} {H H' : Hp} {a : Addr} {xs : List V} (e : Sub H H') (h : SqT K H a xs) : SqT K H' a xs := by
  rcases h with (h | ⟨o, h⟩) | h
  · exact .inl (.inl (e _ _ h))
  · exact .inl (.inr ⟨o, e _ _ h⟩)
  · exact .inr h

/-- an exception's object at a: its class, its dict -/
def ExH (cv : Value) (d : Option Addr) (a : Addr) : HO := .ext fun h => ∃ (oe : Obj) (fv : Array Value), h.get? a = some oe ∧ Zc cv d oe ∧ oe.data = .fields fv
/-- what its dict holds -/
def XD (F : Hp) (d : Option Addr) (ns : List Str) (vs : List V) : Prop := (d = none ∧ ns = [] ∧ vs = []) ∨ ∃ dx, d = some dx ∧ F dx = some (.xd (ns.zip vs)) ∧ ns.length = vs.length ∧ ns ≠ []
theorem XD.mono {F F' : Hp} {d : Option Addr} {ns : List Str} {vs : List V} (e : Sub F F') (h : XD F d ns vs) : XD F' d ns vs := by
  rcases h with h | ⟨dx, h1, h2, h3⟩
  · exact .inl h
  · exact .inr ⟨dx, h1, e _ _ h2, h3⟩
mutual
inductive DR (K : PySem.W.Frag) (F : Hp) : V → D → Prop
  | non : DR K F .non .non
  | bl (b : Bool) : DR K F (.bl b) (.bl b)
  | int (i : Int) : DR K F (.int i) (.int i)
  | str (x : Str) : DR K F (.str x) (.str x)
  | lst {a : Addr} {xs : List V} {ds : List D} : F a = some (.lst xs) → DRs K F xs ds → DR K F (.ref a) (.lst ds)
  | tup {a : Addr} {xs : List V} {ds : List D} : SqT K F a xs → DRs K F xs ds → DR K F (.ref a) (.tup ds)
  | fro {a : Addr} {xs : List V} {ds : List D} : SqL K F a xs → DRs K F xs ds → DR K F (.ref a) (.fro ds)
  | edic {a : Addr} : F a = some (.dK []) → DR K F (.ref a) .edic
  | dct {a : Addr} {kvs : List (Str × Int)} : F a = some (.dK (dctK kvs)) → DR K F (.ref a) (.dct kvs)
  | opq (v : V) : DR K F v (.opq v)
  | exc {a : Addr} {c : Str} {cv : Value} {d : Option Addr} {ns : List Str} {vs : List V} {ds : List D} : PySem.W.nsIn K mainGlobals c = some (some cv) → F a = some (ExH cv d a) → XD F d ns vs → DRs K F vs ds → DR K F (.ref a) (.exc c ns ds)
inductive DRs (K : PySem.W.Frag) (F : Hp) : List V → List D → Prop
  | nil : DRs K F [] []
  | cons {v : V} {vs : List V} {d : D} {ds : List D} : DR K F v d → DRs K F vs ds → DRs K F (v :: vs) (d :: ds)
end

section
variable {K : PySem.W.Frag} {F F' H H' : Hp} {v : V} {d : D} {vs : List V} {ds : List D}
mutual
theorem DR.mono (e : Sub F F') : ∀ {v : V} {d : D}, DR K F v d → DR K F' v d
  | _, _, .non => .non
  | _, _, .bl b => .bl b
  | _, _, .int i => .int i
  | _, _, .str x => .str x
  | _, _, .lst h hs => .lst (e _ _ h) (DRs.mono e hs)
  | _, _, .tup h hs => .tup (e.sqT h) (DRs.mono e hs)
  | _, _, .fro h hs => .fro (e.sqL h) (DRs.mono e hs)
  | _, _, .edic h => .edic (e _ _ h)
  | _, _, .dct h => .dct (e _ _ h)
  | _, _, .opq v => .opq v
  | _, _, .exc h0 h hx hs => .exc h0 (e _ _ h) (hx.mono e) (DRs.mono e hs)
theorem DRs.mono (e : Sub F F') : ∀ {vs : List V} {ds : List D}, DRs K F vs ds → DRs K F' vs ds
  | _, _, .nil => .nil
  | _, _, .cons h hs => .cons (DR.mono e h) (DRs.mono e hs)
end
theorem DRs.length : ∀ {vs : List V} {ds : List D}, DRs K F vs ds → vs.length = ds.length
  | _, _, .nil => rfl
  | _, _, .cons _ h => by simp [DRs.length h]
theorem DRs.get : ∀ {vs : List V} {ds : List D} {i : Nat} {d : D}, DRs K F vs ds → ds[i]? = some d → ∃ v, vs[i]? = some v ∧ DR K F v d
  | _, _, _, _, .nil, e => by simp at e
  | _, _, 0, _, .cons r _, e => by simp at e; subst e; exact ⟨_, rfl, r⟩
  | _, _, i + 1, d, .cons _ t, e => by
    obtain ⟨u, h1, h2⟩ := DRs.get (i := i) (d := d) t (by simpa using e)
    exact ⟨u, by simpa using h1, h2⟩
theorem DRs.getV : ∀ {vs : List V} {ds : List D} {i : Nat} {v : V}, DRs K F vs ds → vs[i]? = some v → ∃ d, ds[i]? = some d ∧ DR K F v d
  | _, _, _, _, .nil, e => by simp at e
  | _, _, 0, _, .cons r _, e => by simp at e; subst e; exact ⟨_, rfl, r⟩
  | _, _, i + 1, d, .cons _ t, e => by
    obtain ⟨u, h1, h2⟩ := DRs.getV (i := i) (v := d) t (by simpa using e)
    exact ⟨u, by simpa using h1, h2⟩
theorem DRs.append : ∀ {xs ys : List V} {ds es : List D}, DRs K F xs ds → DRs K F ys es → DRs K F (xs ++ ys) (ds ++ es)
  | _, _, _, _, .nil, s => s
  | _, _, _, _, .cons r t, s => .cons r (DRs.append t s)
theorem DRs.take : ∀ {xs : List V} {ds : List D} (n : Nat), DRs K F xs ds → DRs K F (xs.take n) (ds.take n)
  | _, _, 0, _ => by simp; exact .nil
  | _, _, _ + 1, .nil => .nil
  | _, _, n + 1, .cons r t => .cons r (DRs.take n t)
theorem DRs.drop : ∀ {xs : List V} {ds : List D} (n : Nat), DRs K F xs ds → DRs K F (xs.drop n) (ds.drop n)
  | _, _, 0, r => r
  | _, _, _ + 1, .nil => .nil
  | _, _, n + 1, .cons _ t => DRs.drop n t
theorem DRs.set {x : V} {u : D} (r : DR K F x u) : ∀ {xs : List V} {us : List D} (i : Nat), DRs K F xs us → DRs K F (xs.set i x) (us.set i u)
  | _, _, _, .nil => .nil
  | _, _, 0, .cons _ t => .cons r t
  | _, _, i + 1, .cons q t => .cons q (DRs.set r i t)
theorem DRs.ints : ∀ (ns : List Int), DRs K F (ns.map V.int) (ns.map D.int)
  | [] => .nil
  | n :: r => .cons (.int n) (DRs.ints r)
end

/-! ### the state: slots, the lists that may change -/
abbrev DS := List (Option D)
abbrev MS := List (Addr × List D)
/-- address 1 (the modules) is tracked from the start: nothing of ours lies there -/
def OneR (K : PySem.W.Frag) (F : Hp) : Prop := K.lookup sysModules = none ∧ ∃ o φ, F sysModules = some (.frz o (.ext φ))
theorem OneR.mono {K : PySem.W.Frag} {F F' : Hp} (h : OneR K F) (s : Sub F F') : OneR K F' := let ⟨a, o, φ, b⟩ := h; ⟨a, o, φ, s _ _ b⟩
structure Rel (K : PySem.W.Frag) (F H : Hp) (ms : MS) : Prop where
  sub : Sub F H
  mu : ∀ p ∈ ms, F p.1 = none ∧ ∃ vs, H p.1 = some (.lst vs) ∧ DRs K F vs p.2
  nd : (ms.map (·.1)).Nodup
  one : OneR K F
inductive Sl (K : PySem.W.Frag) (F : Hp) : L2.St → DS → Prop
  | nil : Sl K F [] []
  | sm {v : V} {d : D} {σ : L2.St} {ds : DS} : DR K F v d → Sl K F σ ds → Sl K F (some v :: σ) (some d :: ds)
  | nn {o : Option V} {σ : L2.St} {ds : DS} : Sl K F σ ds → Sl K F (o :: σ) (none :: ds)
def slot : DS → Nat → Option D
  | [], _ => none
  | o :: _, 0 => o
  | _ :: r, n + 1 => slot r n
def setSlot : DS → Nat → D → DS
  | [], _, _ => []
  | _ :: r, 0, d => some d :: r
  | o :: r, n + 1, d => o :: setSlot r n d
section
variable {K : PySem.W.Frag} {F F' H H' : Hp} {ms : MS} {σ : L2.St} {ds : DS}
theorem Sl.mono (e : Sub F F') : ∀ {σ : L2.St} {ds : DS}, Sl K F σ ds → Sl K F' σ ds
  | _, _, .nil => .nil
  | _, _, .sm h r => .sm (h.mono e) (Sl.mono e r)
  | _, _, .nn r => .nn (Sl.mono e r)
theorem Sl.get : ∀ {σ : L2.St} {ds : DS} {i : Nat} {d : D}, Sl K F σ ds → slot ds i = some d → ∃ v, σ[i]? = some (some v) ∧ DR K F v d
  | _, _, i, _, .nil, e => by cases i <;> cases e
  | _, _, 0, _, .sm h r, e => by cases e; exact ⟨_, rfl, h⟩
  | _, _, 0, _, .nn r, e => by cases e
  | _, _, i + 1, _, .sm h r, e => Sl.get (i := i) r e
  | _, _, i + 1, _, .nn r, e => Sl.get (i := i) r e
theorem Sl.set {v : V} {d : D} (h : DR K F v d) : ∀ {σ : L2.St} {ds : DS} (i : Nat), Sl K F σ ds → Sl K F (σ.set i (some v)) (setSlot ds i d)
  | _, _, i, .nil => by cases i <;> exact .nil
  | _, _, 0, .sm _ r => .sm h r
  | _, _, 0, .nn r => .sm h r
  | _, _, i + 1, .sm q r => .sm q (Sl.set h i r)
  | _, _, i + 1, .nn r => .nn (Sl.set h i r)
theorem Sl.len : ∀ {σ : L2.St} {ds : DS}, Sl K F σ ds → σ.length = ds.length
  | _, _, .nil => rfl
  | _, _, .sm _ r => by simp [Sl.len r]
  | _, _, .nn r => by simp [Sl.len r]
theorem Rel.new {p : Addr} {o : HO} (R : Rel K F H ms) (hp : H p = none) : Rel K (upd F p o) (upd H p o) ms := by
  refine ⟨fun b u e => ?_, fun q hq => ?_, R.nd, R.one.mono (Sub.new (R.sub.none hp))⟩
  · by_cases hb : b = p
    · subst hb; rw [upd_same] at e ⊢; exact e
    · rw [upd_ne hb] at e ⊢; exact R.sub b u e
  · obtain ⟨h1, vs, h2, h3⟩ := R.mu q hq
    have hne : q.1 ≠ p := ne_of_none h2 hp
    exact ⟨by rw [upd_ne hne]; exact h1, vs, by rw [upd_ne hne]; exact h2, h3.mono (Sub.new (R.sub.none hp))⟩
theorem Rel.ext (R : Rel K F H ms) (s : Sub H H') : Rel K F H' ms :=
  ⟨R.sub.trans s, fun q hq => let ⟨h1, vs, h2, h3⟩ := R.mu q hq; ⟨h1, vs, s _ _ h2, h3⟩, R.nd, R.one⟩
theorem Rel.lay {p : Addr} {o : HO} (R : Rel K F H ms) (hp : H p = none) : Rel K F (upd H p o) ms := R.ext (Sub.new hp)
end

/-- one step: what was known stays, what is not ours is left as it was -/
structure Stp (F H : Hp) (ms : MS) (F' H' : Hp) (ms' : MS) : Prop where
  sub : Sub F F'
  keep : ∀ a o, H a = some o → F a = none → (∀ p ∈ ms, p.1 ≠ a) → H' a = some o
  newF : ∀ a o, F' a = some o → F a = some o ∨ H a = none ∨ ∃ p ∈ ms, p.1 = a
  newM : ∀ p ∈ ms', (∃ q ∈ ms, q.1 = p.1) ∨ H p.1 = none ∨ ∃ o, F p.1 = some o
section
variable {K : PySem.W.Frag} {F F1 F2 H H1 H2 : Hp} {ms m1 m2 : MS}
theorem Stp.refl : Stp F H ms F H ms := ⟨Sub.refl F, fun _ _ h _ _ => h, fun _ _ h => .inl h, fun p hp => .inl ⟨p, hp, rfl⟩⟩
theorem Stp.trans (a : Stp F H ms F1 H1 m1) (b : Stp F1 H1 m1 F2 H2 m2) : Stp F H ms F2 H2 m2 := by
  have kp : ∀ c o, H c = some o → F c = none → (∀ p ∈ ms, p.1 ≠ c) → H1 c = some o ∧ F1 c = none ∧ ∀ p ∈ m1, p.1 ≠ c := fun c o h1 h2 h3 => by
    refine ⟨a.keep c o h1 h2 h3, ?_, fun p hp e => ?_⟩
    · cases e : F1 c with
      | none => rfl
      | some u =>
        rcases a.newF c u e with z | z | ⟨p, hp, z⟩
        · rw [h2] at z; cases z
        · rw [h1] at z; cases z
        · exact absurd z (h3 p hp)
    · rcases a.newM p hp with ⟨q, hq, z⟩ | z | ⟨u, z⟩
      · exact h3 q hq (z.trans e)
      · rw [e, h1] at z; cases z
      · rw [e, h2] at z; cases z
  have bk : ∀ c, H1 c = none → F c = none → H c = none ∨ ∃ p ∈ ms, p.1 = c := fun c h1 h2 => by
    cases e : H c with
    | none => exact .inl rfl
    | some u =>
      by_cases hq : ∃ p ∈ ms, p.1 = c
      · exact .inr hq
      · have z := a.keep c u e h2 fun p hp z => hq ⟨p, hp, z⟩
        rw [h1] at z; cases z
  refine ⟨a.sub.trans b.sub, fun c o h1 h2 h3 => ?_, fun c o h => ?_, fun p hp => ?_⟩
  · obtain ⟨x, y, z⟩ := kp c o h1 h2 h3
    exact b.keep c o x y z
  · cases ef : F c with
    | some u =>
      have z := b.sub c u (a.sub c u ef)
      rw [h] at z
      exact .inl z.symm
    | none =>
      refine .inr ?_
      rcases b.newF c o h with z | z | ⟨p, hp, z⟩
      · rcases a.newF c o z with y | y | y
        · rw [ef] at y; cases y
        · exact .inl y
        · exact .inr y
      · exact bk c z ef
      · rcases a.newM p hp with ⟨q, hq, y⟩ | y | ⟨u, y⟩
        · exact .inr ⟨q, hq, y.trans z⟩
        · exact .inl (z ▸ y)
        · rw [z, ef] at y; cases y
  · cases ef : F p.1 with
    | some u => exact .inr (.inr ⟨u, rfl⟩)
    | none =>
      rcases b.newM p hp with ⟨q, hq, z⟩ | z | ⟨u, z⟩
      · rcases a.newM q hq with ⟨q2, hq2, z2⟩ | z2 | ⟨u, z2⟩
        · exact .inl ⟨q2, hq2, z2.trans z⟩
        · exact .inr (.inl (z ▸ z2))
        · rw [z, ef] at z2; cases z2
      · rcases bk p.1 z ef with y | y
        · exact .inr (.inl y)
        · exact .inl y
      · rcases a.newF p.1 u z with y | y | y
        · rw [ef] at y; cases y
        · exact .inr (.inl y)
        · exact .inl y
theorem Stp.new {p : Addr} {o : HO} (R : Rel K F H ms) (hp : H p = none) : Stp F H ms (upd F p o) (upd H p o) ms := by
  refine ⟨Sub.new (R.sub.none hp), fun a u h1 h2 h3 => ?_, fun a u h => ?_, fun q hq => .inl ⟨q, hq, rfl⟩⟩
  · rw [upd_ne (ne_of_none h1 hp)]; exact h1
  · by_cases e : a = p
    · subst e; exact .inr (.inl hp)
    · rw [upd_ne e] at h; exact .inl h
end

/-! ### expressions -/
abbrev DE := DS → MS → (D → MS → Prop) → Prop
abbrev DA := DS → MS → (List D → MS → Prop) → Prop
abbrev DT := DS → MS → (Bool → MS → Prop) → Prop
def lift (K : PySem.W.Frag) (de : DE) : TE := fun σ H Q => ∃ F ds ms P, Rel K F H ms ∧ Sl K F σ ds ∧ de ds ms P ∧
  ∀ d ms' v F' H', P d ms' → Rel K F' H' ms' → Stp F H ms F' H' ms' → DR K F' v d → Q v H'
def liftA (K : PySem.W.Frag) (de : DA) : TA := fun σ H Q => ∃ F ds ms P, Rel K F H ms ∧ Sl K F σ ds ∧ de ds ms P ∧
  ∀ xs ms' vs F' H', P xs ms' → Rel K F' H' ms' → Stp F H ms F' H' ms' → DRs K F' vs xs → Q vs H'
def liftT (K : PySem.W.Frag) (de : DT) : TT := fun σ H Q => ∃ F ds ms P, Rel K F H ms ∧ Sl K F σ ds ∧ de ds ms P ∧
  ∀ b ms' F' H', P b ms' → Rel K F' H' ms' → Stp F H ms F' H' ms' → Q b H'
abbrev PD (X : Cx) (e : Expr) (de : DE) : Prop := PE X e (lift X.K de)
abbrev PDA (X : Cx) (es : List Expr) (de : DA) : Prop := PA X es (liftA X.K de)
abbrev PDT (X : Cx) (e : Expr) (de : DT) : Prop := PT X e (liftT X.K de)
theorem peImp {X : Cx} {e : Expr} {t t' : TE} (h : PE X e t) (hi : ∀ σ H Q, t' σ H Q → t σ H Q) : PE X e t' := ⟨fun pins s σ H Q I hq => h.run pins s σ H Q I (hi σ H Q hq)⟩
theorem paImp {X : Cx} {e : List Expr} {t t' : TA} (h : PA X e t) (hi : ∀ σ H Q, t' σ H Q → t σ H Q) : PA X e t' := ⟨fun pos pins s σ H Q I hq => h.run pos pins s σ H Q I (hi σ H Q hq)⟩
theorem ptImp {X : Cx} {e : Expr} {t t' : TT} (h : PT X e t) (hi : ∀ σ H Q, t' σ H Q → t σ H Q) : PT X e t' := ⟨fun pins s σ H Q I hq => h.run pins s σ H Q I (hi σ H Q hq)⟩
theorem pwImp {X : Cx} {e : Expr} {t t' : TT} (h : PW X e t) (hi : ∀ σ H Q, t' σ H Q → t σ H Q) : PW X e t' := ⟨fun wh pins s σ H Q I hq => h.run wh pins s σ H Q I (hi σ H Q hq)⟩
theorem psImp {X : Cx} {e : Stmt} {t t' : TS} (h : PS X e t) (hi : ∀ D σ H, t' D σ H → t D σ H) : PS X e t' := ⟨fun pins s σ H D I hq => h.run pins s σ H D I (hi D σ H hq)⟩
theorem pssImp {X : Cx} {e : List Stmt} {t t' : TS} (h : PSs X e t) (hi : ∀ D σ H, t' D σ H → t D σ H) : PSs X e t' := ⟨fun pins s σ H D I hq => h.run pins s σ H D I (hi D σ H hq)⟩

def dC (d : D) : DE := fun _ ms P => P d ms
def dVar (i : Nat) : DE := fun ds ms P => match slot ds i with
  | some d => P d ms
  | none => False
section
variable {X : Cx} {K : PySem.W.Frag}
theorem lift_c {v : V} {d : D} (h : ∀ F, DR K F v d) : ∀ σ H Q, lift K (dC d) σ H Q → tC v σ H Q := fun σ H Q ⟨F, ds, ms, P, R, S, h1, h2⟩ =>
  h2 d ms v F H h1 R Stp.refl (h F)
theorem pd_int {i j pos} : PD X (.Constant (.int i) j pos) (dC (.int i)) := peImp pe_int (lift_c fun _ => .int i)
theorem pd_bl {b j pos} : PD X (.Constant (.bool b) j pos) (dC (.bl b)) := peImp pe_bl (lift_c fun _ => .bl b)
theorem pd_non {j pos} : PD X (.Constant .none j pos) (dC .non) := peImp pe_non (lift_c fun _ => .non)
theorem pd_str {x j pos} : PD X (.Constant (.str x) j pos) (dC (.str x)) := peImp pe_str (lift_c fun _ => .str x)
theorem pd_glob {x : Str} {v : V} {d : D} {u : Value} {pos : Pos} (hg : Gl X x) (hm : X.mg x = some u) (r : RelV v u) (h : ∀ F, DR X.K F v d) (hd : (x == ("__debug__" : Str)) = false := by decide) : PD X (.Name x pos) (dC d) :=
  peImp (pe_glob hg hm r hd) (lift_c h)
theorem pd_var (i : Nat) {x : Str} {pos : Pos} (hN : X.N[i]? = some x := by rfl) (hv : Vis X.env.scope x := by first | exact Or.inl rfl | exact Or.inr (Or.inl rfl) | exact Or.inr (Or.inr rfl)) (hd : (x == ("__debug__" : Str)) = false := by decide)
    (hcd : (x == ("__classdict__" : Str)) = false := by decide) : PD X (.Name x pos) (dVar i) :=
  peImp (pe_var hN hv hd hcd) fun σ H Q ⟨F, ds, ms, P, R, S, h1, h2⟩ => by
    unfold dVar at h1
    cases e : slot ds i with
    | none => rw [e] at h1; exact h1.elim
    | some d =>
      rw [e] at h1
      obtain ⟨v, hv, hr⟩ := S.get e
      exact ⟨v, hv, h2 d ms v F H h1 R Stp.refl hr⟩
end

/-! ### two operands -/
abbrev OF := D → D → MS → (D → MS → Prop) → Prop
def OpD (K : PySem.W.Frag) (r : R2) (f : OF) : Prop := ∀ (F H : Hp) (ms : MS) (x y : V) (dx dy : D) (P : D → MS → Prop) (Q : VK), Rel K F H ms → DR K F x dx → DR K F y dy → f dx dy ms P →
  (∀ d ms' v F' H', P d ms' → Rel K F' H' ms' → Stp F H ms F' H' ms' → DR K F' v d → Q v H') → r x y H Q
def dOp (f : OF) (da db : DE) : DE := fun ds ms P => da ds ms fun x m1 => db ds m1 fun y m2 => f x y m2 P
section
variable {X : Cx} {K : PySem.W.Frag} {da db dc : DE} {a b c : Expr} {pos : Pos}
theorem lift_op {r : R2} {f : OF} (hf : OpD K r f) : ∀ σ H Q, lift K (dOp f da db) σ H Q → tOp r (lift K da) (lift K db) σ H Q := fun σ H Q ⟨F, ds, ms, P, R, S, h1, h2⟩ =>
  ⟨F, ds, ms, _, R, S, h1, fun dx m1 x F1 H1 p1 R1 s1 r1 => ⟨F1, ds, m1, _, R1, S.mono s1.sub, p1, fun dy m2 y F2 H2 p2 R2 s2 r2 =>
    hf F2 H2 m2 x y dx dy P Q R2 (r1.mono s2.sub) r2 p2 fun d m3 v F3 H3 p3 R3 s3 r3 => h2 d m3 v F3 H3 p3 R3 (s1.trans (s2.trans s3)) r3⟩⟩
theorem pd_op {op : Operator} {r : R2} {f : OF} (ho : OpR X (binaryOp op) r) (hf : OpD X.K r f) (ha : PD X a da) (hb : PD X b db) : PD X (.BinOp a op b pos) (dOp f da db) :=
  peImp (pe_op ho ha hb) (lift_op hf)
theorem pd_cmp {op : CmpOp} {r : R2} {f : OF} (ho : OpR X (compareOp op) r) (hf : OpD X.K r f) (ha : PD X a da) (hb : PD X b db) (hm : behindInMarks op b = false := by first | exact nomark _ | rfl) : PD X (.Compare a [op] [b] pos) (dOp f da db) :=
  peImp (pe_cmpR ho ha hb hm) (lift_op hf)
theorem pd_ix {r : R2} {f : OF} (hr : IxR X r) (hf : OpD X.K r f) (ha : PD X a da) (hb : PD X b db) (hs : PlainIx b := by exact fun _ _ => rfl) : PD X (.Subscript a b pos) (dOp f da db) :=
  peImp (pe_ix hr ha hb hs) (lift_op hf)
end

/-- ints in, a value out, under a condition -/
def fI (C : Int → Int → Prop) (g : Int → Int → D) : OF := fun x y ms P => match x, y with
  | .int i, .int j => C i j ∧ P (g i j) ms
  | _, _ => False
theorem opd_I {K : PySem.W.Frag} {C C' : Int → Int → Prop} {g : Int → Int → V} {g' : Int → Int → D} (hC : ∀ i j, C i j → C' i j) (hg : ∀ F i j, DR K F (g i j) (g' i j)) : OpD K (rI C' g) (fI C g') := by
  intro F H ms x y dx dy P Q R rx ry h q
  cases rx <;> cases ry <;> try exact h.elim
  exact ⟨_, _, rfl, rfl, hC _ _ h.1, q _ _ _ F H h.2 R Stp.refl (hg F _ _)⟩
theorem opd_I0 {K : PySem.W.Frag} {g : Int → Int → V} {g' : Int → Int → D} (hg : ∀ F i j, DR K F (g i j) (g' i j)) : OpD K (rI0 g) (fI (fun _ _ => True) g') := by
  intro F H ms x y dx dy P Q R rx ry h q
  cases rx <;> cases ry <;> try exact h.elim
  exact ⟨_, _, rfl, rfl, q _ _ _ F H h.2 R Stp.refl (hg F _ _)⟩
end DL

namespace DL
open PySem PySem.Spec PyProof.Rows L2

/-! ### arguments, displays -/
def aNil : DA := fun _ ms P => P [] ms
def aCons (de : DE) (da : DA) : DA := fun ds ms P => de ds ms fun x m1 => da ds m1 fun xs m2 => P (x :: xs) m2
section
variable {X : Cx} {K : PySem.W.Frag} {da db dc : DE} {a b c e : Expr} {es : List Expr} {pos : Pos} {aa : DA}
theorem pda_nil : PDA X [] aNil := paImp pa_nil fun σ H Q ⟨F, ds, ms, P, R, S, h1, h2⟩ => h2 [] ms [] F H h1 R Stp.refl .nil
theorem pda_cons (ha : PD X e da) (hr : PDA X es aa) (hs : starEach (e :: es) X.env = (false, eval e X.env) :: starEach es X.env := by rfl) : PDA X (e :: es) (aCons da aa) :=
  paImp (pa_cons ha hr hs) fun σ H Q ⟨F, ds, ms, P, R, S, h1, h2⟩ =>
    ⟨F, ds, ms, _, R, S, h1, fun dx m1 x F1 H1 p1 R1 s1 r1 => ⟨F1, ds, m1, _, R1, S.mono s1.sub, p1, fun xs m2 vs F2 H2 p2 R2 s2 r2 =>
      h2 _ m2 (x :: vs) F2 H2 p2 R2 (s1.trans s2) (.cons (r1.mono s2.sub) r2)⟩⟩
def dTup (da : DA) : DE := fun ds ms P => da ds ms fun xs m => xs.length ≤ sizeLine ∧ P (.tup xs) m
def dLst (da : DA) : DE := fun ds ms P => da ds ms fun xs m => xs.length ≤ sizeLine ∧ P (.lst xs) m
/-- a list that is to be changed -/
def dLstM (da : DA) : DE := fun ds ms P => da ds ms fun xs m => xs.length ≤ sizeLine ∧ ∀ p, (∀ q ∈ m, q.1 ≠ p) → P (.opq (.ref p)) ((p, xs) :: m)
theorem Rel.newTup {F H : Hp} {ms : MS} {p : Addr} {vs : List V} {xs : List D} (R : Rel K F H ms) (hp : H p = none) (r : DRs K F vs xs) : DR K (upd F p (.tup vs)) (.ref p) (.tup xs) :=
  .tup (SqT.of upd_same) (r.mono (Sub.new (R.sub.none hp)))
theorem Rel.newLst {F H : Hp} {ms : MS} {p : Addr} {vs : List V} {xs : List D} (R : Rel K F H ms) (hp : H p = none) (r : DRs K F vs xs) : DR K (upd F p (.lst vs)) (.ref p) (.lst xs) :=
  .lst upd_same (r.mono (Sub.new (R.sub.none hp)))
theorem Rel.newMut {F H : Hp} {ms : MS} {p : Addr} {vs : List V} {xs : List D} (R : Rel K F H ms) (hp : H p = none) (r : DRs K F vs xs) : (∀ q ∈ ms, q.1 ≠ p) ∧ Rel K F (upd H p (.lst vs)) ((p, xs) :: ms) := by
  have hne : ∀ q ∈ ms, q.1 ≠ p := fun q hq => by
    obtain ⟨h1, ws, h2, h3⟩ := R.mu q hq
    exact ne_of_none h2 hp
  refine ⟨hne, R.sub.trans (Sub.new hp), fun q hq => ?_, ?_, R.one⟩
  · rcases List.mem_cons.mp hq with rfl | hq
    · exact ⟨R.sub.none hp, vs, upd_same, r⟩
    · obtain ⟨h1, ws, h2, h3⟩ := R.mu q hq
      exact ⟨h1, ws, by rw [upd_ne (hne q hq)]; exact h2, h3⟩
  · rw [List.map_cons, List.nodup_cons]
    refine ⟨fun hm => ?_, R.nd⟩
    obtain ⟨q, hq, e⟩ := List.mem_map.mp hm
    exact hne q hq e
theorem Stp.newMut {F H : Hp} {ms : MS} {p : Addr} {vs : List V} {xs : List D} (hp : H p = none) : Stp F H ms F (upd H p (.lst vs)) ((p, xs) :: ms) :=
  ⟨Sub.refl F, fun a u h1 _ _ => by rw [upd_ne (ne_of_none h1 hp)]; exact h1, fun _ _ h => .inl h, fun q hq => by
    rcases List.mem_cons.mp hq with rfl | hq
    · exact .inr (.inl hp)
    · exact .inl ⟨q, hq, rfl⟩⟩
theorem pd_tup {x1} (h : PDA X es aa) : PD X (.Tuple es x1 pos) (dTup aa) := peImp (pe_tup h) fun σ H Q ⟨F, ds, ms, P, R, S, h1, h2⟩ =>
  ⟨F, ds, ms, _, R, S, h1, fun xs m vs F1 H1 p1 R1 s1 r1 => ⟨by rw [r1.length]; exact p1.1, fun p hp =>
    h2 _ m _ (upd F1 p (.tup vs)) _ p1.2 (R1.new hp) (s1.trans (Stp.new R1 hp)) (R1.newTup hp r1)⟩⟩
theorem pd_lst (h : PDA X es aa) : PD X (.List es pos) (dLst aa) := peImp (pe_lst h) fun σ H Q ⟨F, ds, ms, P, R, S, h1, h2⟩ =>
  ⟨F, ds, ms, _, R, S, h1, fun xs m vs F1 H1 p1 R1 s1 r1 => ⟨by rw [r1.length]; exact p1.1, fun p hp =>
    h2 _ m _ (upd F1 p (.lst vs)) _ p1.2 (R1.new hp) (s1.trans (Stp.new R1 hp)) (R1.newLst hp r1)⟩⟩
theorem pd_lstM (h : PDA X es aa) : PD X (.List es pos) (dLstM aa) := peImp (pe_lst h) fun σ H Q ⟨F, ds, ms, P, R, S, h1, h2⟩ =>
  ⟨F, ds, ms, _, R, S, h1, fun xs m vs F1 H1 p1 R1 s1 r1 => ⟨by rw [r1.length]; exact p1.1, fun p hp =>
    h2 _ ((p, xs) :: m) _ F1 _ (p1.2 p (R1.newMut hp r1).1) (R1.newMut hp r1).2 (s1.trans (Stp.newMut hp)) (.opq _)⟩⟩

/-! ### tests -/
def dTest (da : DE) : DT := fun ds ms P => da ds ms fun x m => match x with
  | .bl b => P b m
  | _ => False
theorem pdt_val (h : PD X e da) (he : ∀ whole, isTrue e X.env whole = (do let v ← whole; standAt e.pos; holding [v] (truthy v)) := by intro _; rfl) : PDT X e (dTest da) :=
  ptImp (pt_val h he) fun σ H Q ⟨F, ds, ms, P, R, S, h1, h2⟩ =>
    ⟨F, ds, ms, _, R, S, h1, fun d m v F1 H1 p1 R1 s1 r1 => by
      cases d with
      | bl b => cases r1; exact ⟨b, rfl, h2 b m F1 H1 p1 R1 s1⟩
      | _ => exact p1.elim⟩
theorem pdt_cmp {op : CmpOp} {r : R2} {f : OF} (ho : OpR X (compareOp op) r) (hf : OpD X.K r f) (ha : PD X a da) (hb : PD X b db) (hm : behindInMarks op b = false := by first | exact nomark _ | rfl) : PDT X (.Compare a [op] [b] pos) (dTest (dOp f da db)) :=
  ptImp (pt_cmpR ho ha hb hm) fun σ H Q ⟨F, ds, ms, P, R, S, h1, h2⟩ =>
    lift_op hf σ H _ ⟨F, ds, ms, _, R, S, h1, fun d m v F1 H1 p1 R1 s1 r1 => by
      cases d with
      | bl b => cases r1; exact ⟨b, rfl, h2 b m F1 H1 p1 R1 s1⟩
      | _ => exact p1.elim⟩
/-- a value's truth -/
def truD : D → MS → (Bool → Prop) → Prop := fun x ms P => match x with
  | .non => P false
  | .bl b => P b
  | .int i => P (i != 0)
  | .str y => y.length ≤ sizeLine ∧ P ((y.length : Int) != 0)
  | .lst xs => P (!xs.isEmpty)
  | .fro xs => P (!xs.isEmpty)
  | .tup xs => P (!xs.isEmpty)
  | _ => False
def dTru (da : DE) : DT := fun ds ms P => da ds ms fun x m => truD x m fun b => P b m
theorem isEmpty_of' {F : Hp} {vs : List V} {xs : List D} (r : DRs K F vs xs) : (!xs.isEmpty) = !vs.isEmpty := by cases r <;> rfl
theorem pdt_tru (h : PD X e da) (he : ∀ whole, isTrue e X.env whole = (do let v ← whole; standAt e.pos; holding [v] (truthy v)) := by intro _; rfl) : PDT X e (dTru da) :=
  ptImp (pt_truth h he) fun σ H Q ⟨F, ds, ms, P, R, S, h1, h2⟩ =>
    ⟨F, ds, ms, _, R, S, h1, fun d m v F1 H1 p1 R1 s1 r1 => by
      cases r1 with
      | non => exact ⟨_, rfl, h2 _ m F1 H1 p1 R1 s1⟩
      | bl b => exact ⟨_, rfl, h2 _ m F1 H1 p1 R1 s1⟩
      | int i => exact ⟨_, rfl, h2 _ m F1 H1 p1 R1 s1⟩
      | str x => exact ⟨_, ⟨p1.1, rfl⟩, h2 _ m F1 H1 p1.2 R1 s1⟩
      | lst h hs => exact ⟨_, .inl ⟨_, SqL.of (R1.sub _ _ h), isEmpty_of' hs⟩, h2 _ m F1 H1 p1 R1 s1⟩
      | tup h hs => exact ⟨_, .inr (.inl ⟨_, R1.sub.sqT h, isEmpty_of' hs⟩), h2 _ m F1 H1 p1 R1 s1⟩
      | fro h hs => exact ⟨_, .inl ⟨_, R1.sub.sqL h, isEmpty_of' hs⟩, h2 _ m F1 H1 p1 R1 s1⟩
      | edic h => exact p1.elim
      | dct h => exact p1.elim
      | opq v => exact p1.elim
      | exc _ _ _ _ => exact p1.elim⟩
def dNot (dt : DT) : DT := fun ds ms P => dt ds ms fun b m => P (!b) m
def dAnd (dt du : DT) : DT := fun ds ms P => dt ds ms fun b m => if b = true then du ds m P else P false m
def dOr (dt du : DT) : DT := fun ds ms P => dt ds ms fun b m => if b = true then P true m else du ds m P
variable {dt du : DT} {rest : List Expr}
theorem pdt_not (h : PDT X e dt) : PDT X (.UnaryOp .Not e pos) (dNot dt) := ptImp (pt_not h) fun σ H Q ⟨F, ds, ms, P, R, S, h1, h2⟩ =>
  ⟨F, ds, ms, _, R, S, h1, fun b m F1 H1 p1 R1 s1 => h2 _ m F1 H1 p1 R1 s1⟩
abbrev PDW (X : Cx) (e : Expr) (dt : DT) : Prop := PW X e (liftT X.K dt)
theorem pdw_and1 (h : PDT X e dt) : PDW X (.BoolOp .And [e] pos) dt := pw_and1 h
theorem pdw_or1 (h : PDT X e dt) : PDW X (.BoolOp .Or [e] pos) dt := pw_or1 h
theorem pdw_and (h : PDT X a dt) (hb : PDW X (.BoolOp .And (b :: rest) pos) du) : PDW X (.BoolOp .And (a :: b :: rest) pos) (dAnd dt du) := pwImp (pw_and h hb) fun σ H Q ⟨F, ds, ms, P, R, S, h1, h2⟩ =>
  ⟨F, ds, ms, _, R, S, h1, fun k m F1 H1 p1 R1 s1 => by
    cases k with
    | true =>
      rw [if_pos rfl] at p1 ⊢
      exact ⟨F1, ds, m, P, R1, S.mono s1.sub, p1, fun k2 m2 F2 H2 p2 R2 s2 => h2 k2 m2 F2 H2 p2 R2 (s1.trans s2)⟩
    | false =>
      rw [if_neg Bool.false_ne_true] at p1 ⊢
      exact h2 _ m F1 H1 p1 R1 s1⟩
theorem pdw_or (h : PDT X a dt) (hb : PDW X (.BoolOp .Or (b :: rest) pos) du) : PDW X (.BoolOp .Or (a :: b :: rest) pos) (dOr dt du) := pwImp (pw_or h hb) fun σ H Q ⟨F, ds, ms, P, R, S, h1, h2⟩ =>
  ⟨F, ds, ms, _, R, S, h1, fun k m F1 H1 p1 R1 s1 => by
    cases k with
    | false =>
      rw [if_neg Bool.false_ne_true] at p1 ⊢
      exact ⟨F1, ds, m, P, R1, S.mono s1.sub, p1, fun k2 m2 F2 H2 p2 R2 s2 => h2 k2 m2 F2 H2 p2 R2 (s1.trans s2)⟩
    | true =>
      rw [if_pos rfl] at p1 ⊢
      exact h2 _ m F1 H1 p1 R1 s1⟩
theorem pdt_w (h : PDW X e dt) : PDT X e dt := h.pt
/-! and, or, not as values: all but the last a bool -/
def dAndV (da db : DE) : DE := fun ds ms P => da ds ms fun x m => match x with
  | .bl b => if b = true then db ds m P else P (.bl false) m
  | _ => False
def dOrV (da db : DE) : DE := fun ds ms P => da ds ms fun x m => match x with
  | .bl b => if b = true then P (.bl true) m else db ds m P
  | _ => False
def dNotV (da : DE) : DE := fun ds ms P => da ds ms fun x m => match x with
  | .bl b => P (.bl (!b)) m
  | _ => False
theorem pd_one {op} (h : PD X e da) : PD X (.BoolOp op [e] pos) da := pe_one h
theorem pd_and (h : PD X a da) (hb : PD X (.BoolOp .And (b :: rest) pos) db) : PD X (.BoolOp .And (a :: b :: rest) pos) (dAndV da db) := peImp (pe_and h hb) fun σ H Q ⟨F, ds, ms, P, R, S, h1, h2⟩ =>
  ⟨F, ds, ms, _, R, S, h1, fun k m v F1 H1 p1 R1 s1 r1 => by
    cases k with
    | bl k =>
      cases r1
      refine ⟨k, rfl, ?_⟩
      cases k with
      | true =>
        simp only [if_true] at p1 ⊢
        exact ⟨F1, ds, m, P, R1, S.mono s1.sub, p1, fun k2 m2 v2 F2 H2 p2 R2 s2 r2 => h2 k2 m2 v2 F2 H2 p2 R2 (s1.trans s2) r2⟩
      | false =>
        simp only [if_neg Bool.false_ne_true] at p1 ⊢
        exact h2 _ m _ F1 H1 p1 R1 s1 (.bl false)
    | _ => exact p1.elim⟩
theorem pd_or (h : PD X a da) (hb : PD X (.BoolOp .Or (b :: rest) pos) db) : PD X (.BoolOp .Or (a :: b :: rest) pos) (dOrV da db) := peImp (pe_or h hb) fun σ H Q ⟨F, ds, ms, P, R, S, h1, h2⟩ =>
  ⟨F, ds, ms, _, R, S, h1, fun k m v F1 H1 p1 R1 s1 r1 => by
    cases k with
    | bl k =>
      cases r1
      refine ⟨k, rfl, ?_⟩
      cases k with
      | false =>
        simp only [if_neg Bool.false_ne_true] at p1 ⊢
        exact ⟨F1, ds, m, P, R1, S.mono s1.sub, p1, fun k2 m2 v2 F2 H2 p2 R2 s2 r2 => h2 k2 m2 v2 F2 H2 p2 R2 (s1.trans s2) r2⟩
      | true =>
        simp only [if_true] at p1 ⊢
        exact h2 _ m _ F1 H1 p1 R1 s1 (.bl true)
    | _ => exact p1.elim⟩
theorem pd_not (h : PD X e da) : PD X (.UnaryOp .Not e pos) (dNotV da) := peImp (pe_not h) fun σ H Q ⟨F, ds, ms, P, R, S, h1, h2⟩ =>
  ⟨F, ds, ms, _, R, S, h1, fun k m v F1 H1 p1 R1 s1 r1 => by
    cases k with
    | bl k => cases r1; exact ⟨k, rfl, h2 _ m _ F1 H1 p1 R1 s1 (.bl _)⟩
    | _ => exact p1.elim⟩
def dIf (dt : DT) (da db : DE) : DE := fun ds ms P => dt ds ms fun b m => if b = true then da ds m P else db ds m P
theorem pd_ifExp (hc : PDT X c dt) (ha : PD X a da) (hb : PD X b db) : PD X (.IfExp c a b pos) (dIf dt da db) := peImp (pe_ifExp hc ha hb) fun σ H Q ⟨F, ds, ms, P, R, S, h1, h2⟩ =>
  ⟨F, ds, ms, _, R, S, h1, fun k m F1 H1 p1 R1 s1 => by
    cases k with
    | true =>
      rw [if_pos rfl] at p1 ⊢
      exact ⟨F1, ds, m, P, R1, S.mono s1.sub, p1, fun k2 m2 v2 F2 H2 p2 R2 s2 r2 => h2 k2 m2 v2 F2 H2 p2 R2 (s1.trans s2) r2⟩
    | false =>
      rw [if_neg Bool.false_ne_true] at p1 ⊢
      exact ⟨F1, ds, m, P, R1, S.mono s1.sub, p1, fun k2 m2 v2 F2 H2 p2 R2 s2 r2 => h2 k2 m2 v2 F2 H2 p2 R2 (s1.trans s2) r2⟩⟩
def dNeg (da : DE) : DE := fun ds ms P => da ds ms fun x m => match x with
  | .int i => P (.int (-i)) m
  | _ => False
theorem pd_neg (h : PD X e da) : PD X (.UnaryOp .USub e pos) (dNeg da) := peImp (pe_un un_neg h) fun σ H Q ⟨F, ds, ms, P, R, S, h1, h2⟩ =>
  ⟨F, ds, ms, _, R, S, h1, fun k m v F1 H1 p1 R1 s1 r1 => by
    cases k with
    | int k => cases r1; exact ⟨k, rfl, h2 _ m _ F1 H1 p1 R1 s1 (.int _)⟩
    | _ => exact p1.elim⟩
end

/-! ### statements -/
structure EN where
  nx : DS → MS → Prop
  rt : D → MS → Prop
  bk : DS → MS → Prop := fun _ _ => False
  ct : DS → MS → Prop := fun _ _ => False
  ex : Str → List Str → List D → DS → MS → Prop := fun _ _ _ _ _ => False
abbrev DTS := EN → DS → MS → Prop
def liftS (K : PySem.W.Frag) (t : DTS) : TS := fun D σ H => ∃ F ds ms E, Rel K F H ms ∧ Sl K F σ ds ∧ t E ds ms ∧
  (∀ ds' ms' σ' F' H', E.nx ds' ms' → Rel K F' H' ms' → Stp F H ms F' H' ms' → Sl K F' σ' ds' → D.nx σ' H') ∧
  (∀ d ms' v F' H', E.rt d ms' → Rel K F' H' ms' → Stp F H ms F' H' ms' → DR K F' v d → D.rt v H') ∧
  (∀ ds' ms' σ' F' H', E.bk ds' ms' → Rel K F' H' ms' → Stp F H ms F' H' ms' → Sl K F' σ' ds' → D.bk σ' H') ∧
  (∀ ds' ms' σ' F' H', E.ct ds' ms' → Rel K F' H' ms' → Stp F H ms F' H' ms' → Sl K F' σ' ds' → D.ct σ' H')
abbrev PDS (X : Cx) (st : Stmt) (t : DTS) : Prop := PS X st (liftS X.K t)
abbrev PDSs (X : Cx) (st : List Stmt) (t : DTS) : Prop := PSs X st (liftS X.K t)
def dNext : DTS := fun E ds ms => E.nx ds ms
def dBreak : DTS := fun E ds ms => E.bk ds ms
def dCont : DTS := fun E ds ms => E.ct ds ms
def dSeq (t u : DTS) : DTS := fun E ds ms => t { E with nx := u E } ds ms
def dRet (de : DE) : DTS := fun E ds ms => de ds ms E.rt
def dRetN : DTS := fun E ds ms => E.rt .non ms
def dDrop (de : DE) : DTS := fun E ds ms => de ds ms fun _ m => E.nx ds m
def dIfS (c : DT) (t u : DTS) : DTS := fun E ds ms => c ds ms fun b m => if b = true then t E ds m else u E ds m
def dNever : DTS := fun _ _ _ => False
section
variable {X : Cx} {K : PySem.W.Frag} {da db dc : DE} {a b c e : Expr} {es : List Expr} {pos : Pos} {aa : DA} {st : Stmt} {rest : List Stmt} {t u : DTS} {dt : DT}
theorem pds_nil : PDSs X [] dNext := pssImp pss_nil fun D σ H ⟨F, ds, ms, E, R, S, h, n, r, k, q⟩ => n ds ms σ F H h R Stp.refl S
theorem lift_seq : ∀ D σ H, liftS K (dSeq t u) D σ H → tSeq (liftS K t) (liftS K u) D σ H := fun D σ H ⟨F, ds, ms, E, R, S, h, n, r, k, q⟩ =>
  ⟨F, ds, ms, { E with nx := u E }, R, S, h, fun ds1 m1 σ1 F1 H1 h1 R1 s1 S1 => ⟨F1, ds1, m1, E, R1, S1, h1,
    fun ds2 m2 σ2 F2 H2 h2 R2 s2 S2 => n ds2 m2 σ2 F2 H2 h2 R2 (s1.trans s2) S2, fun d m2 v F2 H2 h2 R2 s2 r2 => r d m2 v F2 H2 h2 R2 (s1.trans s2) r2,
    fun ds2 m2 σ2 F2 H2 h2 R2 s2 S2 => k ds2 m2 σ2 F2 H2 h2 R2 (s1.trans s2) S2, fun ds2 m2 σ2 F2 H2 h2 R2 s2 S2 => q ds2 m2 σ2 F2 H2 h2 R2 (s1.trans s2) S2⟩, r, k, q⟩
theorem pds_cons (h1 : PDS X st t) (h2 : PDSs X rest u) : PDSs X (st :: rest) (dSeq t u) := pssImp (pss_cons h1 h2) lift_seq
theorem pds_one (h1 : PDS X st t) : PDSs X [st] t := pss_one h1
theorem pds_pass : PDS X (.Pass pos) dNext := psImp ps_pass fun D σ H ⟨F, ds, ms, E, R, S, h, n, r, k, q⟩ => n ds ms σ F H h R Stp.refl S
theorem pds_break : PDS X (.Break pos) dBreak := psImp ps_break fun D σ H ⟨F, ds, ms, E, R, S, h, n, r, k, q⟩ => k ds ms σ F H h R Stp.refl S
theorem pds_cont : PDS X (.Continue pos) dCont := psImp ps_continue fun D σ H ⟨F, ds, ms, E, R, S, h, n, r, k, q⟩ => q ds ms σ F H h R Stp.refl S
theorem pds_never : PDS X st dNever := psImp ps_never fun D σ H ⟨F, ds, ms, E, R, S, h, n, r, k, q⟩ => h
theorem pds_neverS {sts : List Stmt} : PDSs X sts dNever := pssImp pss_never fun D σ H ⟨F, ds, ms, E, R, S, h, n, r, k, q⟩ => h
theorem pds_expr (he : PD X e da) (hs : swapsWith e none pos.line X.env = pure false := by rfl) : PDS X (.Expr e pos) (dDrop da) := psImp (ps_expr he hs) fun D σ H ⟨F, ds, ms, E, R, S, h, n, r, k, q⟩ =>
  ⟨F, ds, ms, _, R, S, h, fun d m v F1 H1 p1 R1 s1 r1 => n ds m σ F1 H1 p1 R1 s1 (S.mono s1.sub)⟩
theorem pds_ret (he : PD X e da) : PDS X (.Return (some e) pos) (dRet da) := psImp (ps_ret he) fun D σ H ⟨F, ds, ms, E, R, S, h, n, r, k, q⟩ =>
  ⟨F, ds, ms, _, R, S, h, fun d m v F1 H1 p1 R1 s1 r1 => r d m v F1 H1 p1 R1 s1 r1⟩
theorem pds_retN : PDS X (.Return none pos) dRetN := psImp ps_retN fun D σ H ⟨F, ds, ms, E, R, S, h, n, r, k, q⟩ => r .non ms .non F H h R Stp.refl .non
theorem pds_if {x y : List Stmt} (hc : PDT X c dt) (ha : PDSs X x t) (hb : PDSs X y u) : PDS X (.If c x y pos) (dIfS dt t u) := psImp (ps_if hc ha hb) fun D σ H ⟨F, ds, ms, E, R, S, h, n, r, k, q⟩ =>
  ⟨F, ds, ms, _, R, S, h, fun b m F1 H1 p1 R1 s1 => by
    have mk : ∀ {w : DTS}, w E ds m → liftS X.K w D σ H1 := fun {w} hw => ⟨F1, ds, m, E, R1, S.mono s1.sub, hw,
      fun ds2 m2 σ2 F2 H2 h2 R2 s2 S2 => n ds2 m2 σ2 F2 H2 h2 R2 (s1.trans s2) S2, fun d m2 v F2 H2 h2 R2 s2 r2 => r d m2 v F2 H2 h2 R2 (s1.trans s2) r2,
      fun ds2 m2 σ2 F2 H2 h2 R2 s2 S2 => k ds2 m2 σ2 F2 H2 h2 R2 (s1.trans s2) S2, fun ds2 m2 σ2 F2 H2 h2 R2 s2 S2 => q ds2 m2 σ2 F2 H2 h2 R2 (s1.trans s2) S2⟩
    cases b with
    | true => rw [if_pos rfl] at p1; exact iteT (mk p1)
    | false => rw [if_neg Bool.false_ne_true] at p1; exact iteF (mk p1)⟩

/-! ### targets -/
abbrev DG := D → DS → (DS → Prop) → Prop
abbrev DGs := List D → DS → (DS → Prop) → Prop
structure TgD (K : PySem.W.Frag) (g : TG) (dg : DG) (vs : List Nat) : Prop where
  snd : ∀ (v : V) (σ : L2.St) (F H : Hp) (Q : L2.St → Hp → Prop) (d : D) (ds : DS) (P : DS → Prop), Sub F H → Sl K F σ ds → DR K F v d → dg d ds P → (∀ ds' σ', P ds' → Sl K F σ' ds' → Q σ' H) → g v σ H Q
  wip : ∀ (v : V) (σ : L2.St) (H : Hp) (Q : L2.St → Hp → Prop), g v σ H Q → g v σ H fun σ2 H2 => wipe σ2 vs = wipe σ vs ∧ Q σ2 H2
structure TgsD (K : PySem.W.Frag) (g : TGs) (dg : DGs) (vs : List Nat) : Prop where
  snd : ∀ (xs : List V) (σ : L2.St) (F H : Hp) (Q : L2.St → Hp → Prop) (d : List D) (ds : DS) (P : DS → Prop), Sub F H → Sl K F σ ds → DRs K F xs d → dg d ds P → (∀ ds' σ', P ds' → Sl K F σ' ds' → Q σ' H) → g xs σ H Q
  wip : ∀ (v : List V) (σ : L2.St) (H : Hp) (Q : L2.St → Hp → Prop), g v σ H Q → g v σ H fun σ2 H2 => wipe σ2 vs = wipe σ vs ∧ Q σ2 H2
def sName (i : Nat) : DG := fun d ds P => P (setSlot ds i d)
def sNil : DGs := fun xs ds P => match xs with
  | [] => P ds
  | _ => False
def sCons (g : DG) (gs : DGs) : DGs := fun xs ds P => match xs with
  | x :: r => g x ds fun ds1 => gs r ds1 P
  | [] => False
def sTup (n : Nat) (gs : DGs) : DG := fun d ds P => match d with
  | .tup xs => xs.length = n ∧ gs xs ds P
  | _ => False
theorem wipe_set {σ : L2.St} {o : Option V} {i : Nat} : ∀ {vs : List Nat}, i ∈ vs → wipe (σ.set i o) vs = wipe σ vs
  | [], h => absurd h (by simp)
  | v :: vs, h => by
    show (wipe (σ.set i o) vs).set v none = (wipe σ vs).set v none
    by_cases hv : i = v
    · subst hv
      have key : ∀ (ws : List Nat), (wipe (σ.set i o) ws).set i none = (wipe σ ws).set i none := by
        intro ws
        induction ws with
        | nil => show (σ.set i o).set i none = σ.set i none; rw [List.set_set]
        | cons w ws ih =>
          show ((wipe (σ.set i o) ws).set w none).set i none = ((wipe σ ws).set w none).set i none
          by_cases hw : w = i
          · subst hw; rw [List.set_set, List.set_set, ih]
          · rw [List.set_comm _ _ hw, List.set_comm _ _ hw, ih]
      exact key vs
    · rw [wipe_set ((List.mem_cons.mp h).resolve_left hv)]
theorem tg_name {i : Nat} {vs : List Nat} (h : i ∈ vs) : TgD K (gName i) (sName i) vs :=
  ⟨fun v σ F H Q d ds P sb S r hp q => q _ _ hp (S.set r i), fun v σ H Q h1 => ⟨wipe_set h, h1⟩⟩
theorem tgs_nil {vs : List Nat} : TgsD K gNil sNil vs :=
  ⟨fun xs σ F H Q d ds P sb S r hp q => by
    cases r with
    | nil => exact ⟨rfl, q _ _ hp S⟩
    | cons _ _ => exact hp.elim, fun v σ H Q h1 => ⟨h1.1, rfl, h1.2⟩⟩
theorem tgs_cons {g : TG} {gs : TGs} {dg : DG} {dgs : DGs} {vs : List Nat} (h : TgD K g dg vs) (hs : TgsD K gs dgs vs)
    (mg : ∀ v σ H (Q Q' : L2.St → Hp → Prop), (∀ s h, Q s h → Q' s h) → g v σ H Q → g v σ H Q') : TgsD K (gCons g gs) (sCons dg dgs) vs := by
  refine ⟨fun xs σ F H Q d ds P sb S r hp q => ?_, fun v σ H Q h1 => ?_⟩
  · cases r with
    | nil => exact hp.elim
    | cons r rs => exact ⟨_, _, rfl, h.snd _ _ F H _ _ _ _ sb S r hp fun ds1 σ1 h1 S1 => hs.snd _ _ F H _ _ _ _ sb S1 rs h1 q⟩
  · obtain ⟨x, r, e, h2⟩ := h1
    refine ⟨x, r, e, mg _ _ _ _ _ (fun σ1 H1 z => ?_) (h.wip _ _ _ _ h2)⟩
    obtain ⟨z1, z2⟩ := z
    have z3 := hs.wip _ _ _ _ z2
    rw [z1] at z3
    exact z3
theorem tg_tup {gs : TGs} {dgs : DGs} {vs : List Nat} {n : Nat} (hs : TgsD K gs dgs vs) : TgD K (gTup K n gs) (sTup n dgs) vs := by
  refine ⟨fun v σ F H Q d ds P sb S r hp q => ?_, fun v σ H Q h1 => ?_⟩
  · cases r with
    | tup h rs => exact ⟨_, _, rfl, sb.sqT h, by rw [rs.length]; exact hp.1, hs.snd _ _ F H _ _ _ _ sb S rs hp.2 q⟩
    | _ => exact hp.elim
  · obtain ⟨a, xs, e, h2, h3, h4⟩ := h1
    exact ⟨a, xs, e, h2, h3, hs.wip _ _ _ _ h4⟩
/-! a target is monotone -/
def MonG (g : TG) : Prop := ∀ v σ H (Q Q' : L2.St → Hp → Prop), (∀ s h, Q s h → Q' s h) → g v σ H Q → g v σ H Q'
def MonGs (g : TGs) : Prop := ∀ v σ H (Q Q' : L2.St → Hp → Prop), (∀ s h, Q s h → Q' s h) → g v σ H Q → g v σ H Q'
theorem mon_name {i : Nat} : MonG (gName i) := fun v σ H Q Q' h q => h _ _ q
theorem mon_nil : MonGs gNil := fun v σ H Q Q' h q => ⟨q.1, h _ _ q.2⟩
theorem mon_cons {g : TG} {gs : TGs} (a : MonG g) (b : MonGs gs) : MonGs (gCons g gs) := fun v σ H Q Q' h q =>
  let ⟨x, r, e, z⟩ := q; ⟨x, r, e, a _ _ _ _ _ (fun s hh z => b _ _ _ _ _ h z) z⟩
theorem mon_tup {gs : TGs} {n : Nat} (b : MonGs gs) : MonG (gTup K n gs) := fun v σ H Q Q' h q =>
  let ⟨a, xs, e, h2, h3, h4⟩ := q; ⟨a, xs, e, h2, h3, b _ _ _ _ _ h h4⟩
/-! ### x = e; a, b = e -/
def dAsg (de : DE) (g : DG) : DTS := fun E ds ms => de ds ms fun d m => g d ds fun ds1 => E.nx ds1 m
theorem lift_asg {g : TG} {dg : DG} {vs : List Nat} (hg : TgD K g dg vs) : ∀ D σ H, liftS K (dAsg da dg) D σ H → tAsg (lift K da) g D σ H := fun D σ H ⟨F, ds, ms, E, R, S, h, n, r, k, q⟩ =>
  ⟨F, ds, ms, _, R, S, h, fun d m v F1 H1 p1 R1 s1 r1 => hg.snd v σ F1 H1 _ d ds _ R1.sub (S.mono s1.sub) r1 p1 fun ds1 σ1 h1 S1 => n ds1 m σ1 F1 H1 h1 R1 s1 S1⟩
theorem pds_set {i : Nat} {x : Str} {pos' : Pos} (hN : X.N.Nodup) (hi : X.N[i]? = some x) (hx : Loc X.env.scope x) (he : PD X e da) (hs : swapsWith e (some (.Name x pos')) pos.line X.env = pure false := by rfl)
    (hf : X.fn x = true ∨ X.env.scope.names.lookup x = some .local := by first | exact .inl rfl | exact .inr rfl | assumption) : PDS X (.Assign [.Name x pos'] e pos) (dAsg da (sName i)) :=
  psImp (ps_set hN hi hx he hs hf) (lift_asg (vs := [i]) (tg_name (by simp)))
theorem pds_asg {tg : Expr} {g : TG} {dg : DG} {vs : List Nat} (he : PD X e da) (hg : PG X tg g) (hd : TgD X.K g dg vs) (hs : swapsWithSole [tg] e pos.line X.env = pure false := by rfl) (hw : swappedStores [tg] e X.env = pure none := by rfl)
    (h1 : (assignEach [tg] X.env).map (·.2) = [assign tg X.env] := by rfl) : PDS X (.Assign [tg] e pos) (dAsg da dg) :=
  psImp (ps_asg he hg hs hw h1) (lift_asg hd)
/-- a, b = x, y with plain local names -/
def dPar (i j : Nat) (aa : DA) : DTS := fun E ds ms => aa ds ms fun xs m => match xs with
  | [x, y] => E.nx (setSlot (setSlot ds i x) j y) m
  | _ => False
theorem pds_par {i j : Nat} {x y : Str} {px py pt : Pos} {kt k2 pt2} (hc : X.calm = true) (hN : X.N.Nodup) (hi : X.N[i]? = some x) (hj : X.N[j]? = some y) (hij : i ≠ j)
    (hx : X.env.scope.names.lookup x = some .local) (hy : X.env.scope.names.lookup y = some .local) (ha : PDA X [a, b] aa)
    (hw : swappedStores [.Tuple [.Name x px, .Name y py] kt pt] (.Tuple [a, b] k2 pt2) X.env = pure (some [x, y]))
    (hs : swapsWithSole [.Tuple [.Name x px, .Name y py] kt pt] (.Tuple [a, b] k2 pt2) pos.line X.env = pure false := by rfl) :
    PDS X (.Assign [.Tuple [.Name x px, .Name y py] kt pt] (.Tuple [a, b] k2 pt2) pos) (dPar i j aa) :=
  psImp (ps_par hc hN hi hj hij hx hy ha hw hs) fun D σ H ⟨F, ds, ms, E, R, S, h, n, r, k, q⟩ =>
    ⟨F, ds, ms, _, R, S, h, fun xs m vs F1 H1 p1 R1 s1 r1 => by
      match xs, r1, p1 with
      | [x, y], .cons (v := v) rx (.cons (v := w) ry .nil), p1 => exact ⟨v, w, rfl, n _ m _ F1 H1 p1 R1 s1 (((S.mono s1.sub).set rx i).set ry j)⟩⟩
/-! ### op= -/
def dAug (i : Nat) (de : DE) (f : OF) : DTS := fun E ds ms => match slot ds i with
  | some x => de ds ms fun y m => f x y m fun z m2 => E.nx (setSlot ds i z) m2
  | none => False
theorem pds_aug {i : Nat} {x : Str} {op : Operator} {r : R2} {f : OF} {pos' : Pos} (hN : X.N.Nodup) (hi : X.N[i]? = some x) (hx : Loc X.env.scope x) (he : PD X e da) (ho : PIp X op r) (hf2 : OpD X.K r f)
    (hf : X.fn x = true ∨ X.env.scope.names.lookup x = some .local := by first | exact .inl rfl | exact .inr rfl | assumption) : PDS X (.AugAssign (.Name x pos') op e pos) (dAug i da f) :=
  psImp (ps_aug hN hi hx he ho hf) fun D σ H ⟨F, ds, ms, E, R, S, h, n, r, k, q⟩ => by
    unfold dAug at h
    cases es : slot ds i with
    | none => rw [es] at h; exact h.elim
    | some dx =>
      rw [es] at h
      obtain ⟨v, hv, hr⟩ := S.get es
      exact ⟨v, hv, F, ds, ms, _, R, S, h, fun dy m y F1 H1 p1 R1 s1 r1 => hf2 F1 H1 m v y dx dy _ _ R1 (hr.mono s1.sub) r1 p1 fun d m2 w F2 H2 p2 R2 s2 r2 =>
        n _ m2 _ F2 H2 p2 R2 (s1.trans s2) ((S.mono (s1.trans s2).sub).set r2 i)⟩
end
end DL

namespace DL
open PySem PySem.Spec PyProof.Rows L2

/-! ### calls, with nothing shown by repr around -/
structure RoomG (k : Nat) (A : Around) : Prop where
  r : Room k A
  g : A.guards = some []
theorem RoomG.mono {j k : Nat} {A : Around} (r : RoomG k A) (h : j ≤ k) : RoomG j A := ⟨r.r.mono h, r.g⟩
structure FnG (P : Program) (w : World) (K : PySem.W.Frag) (mg : Str → Option Value) (base : Heap) (k : Nat) (f : Addr) (fd : FuncData) (ps : List Str) (sp : Sp) : Prop where
  len : ∀ vs H Q E, sp vs H Q E → vs.length = ps.length
  go : ∀ (A : Around) (outer : List Env) (s : Shared) (H : Hp) (args : Args) (us : List Value) (vs : List V) (Q : VK), RoomG k A → Env0 P w K mg base A outer s H →
    BindsTo s fd args (ps.zip us) → Vals vs us → sp vs H Q E0 → codeAny (model P w) A (.call (.ref f) args) (CR CX0 outer P w H s Q E0) s
/-- which values go to the parameters: by their places among the positional ones and then the keywords -/
def pick {α : Type} (is : List Nat) (xs : List α) : List α := is.filterMap fun i => xs[i]?
theorem pick_vals {vs : List V} {us : List Value} (r : Vals vs us) : ∀ is : List Nat, Vals (pick is vs) (pick is us)
  | [] => .nil
  | i :: is => by
    unfold pick
    rw [List.filterMap_cons, List.filterMap_cons]
    cases e : vs[i]? with
    | none => rw [r.none_of e]; exact pick_vals r is
    | some v =>
      obtain ⟨u, h1, h2⟩ := r.get e
      rw [h1]
      exact .cons h2 (pick_vals r is)
theorem pick_drs {K : PySem.W.Frag} {F : Hp} {vs : List V} {xs : List D} (r : DRs K F vs xs) : ∀ is : List Nat, DRs K F (pick is vs) (pick is xs)
  | [] => .nil
  | i :: is => by
    unfold pick
    rw [List.filterMap_cons, List.filterMap_cons]
    cases e : vs[i]? with
    | none =>
      have h : xs[i]? = none := by
        have h1 := r.length
        have h2 := List.getElem?_eq_none_iff.mp e
        exact List.getElem?_eq_none_iff.mpr (by omega)
      rw [h]; exact pick_drs r is
    | some v =>
      obtain ⟨u, h1, h2⟩ := r.getV e
      rw [h1]
      exact .cons h2 (pick_drs r is)
structure Bnd (K : PySem.W.Frag) (fd : FuncData) (ps : List Str) (n : Nat) (ks : List Str) (is : List Nat) : Prop where
  to : ∀ (s : Shared) (us ws : List Value), K.In s.heap → us.length = n → ws.length = ks.length → BindsTo s fd ⟨us, ks.zip ws⟩ (ps.zip (pick is (us ++ ws)))
abbrev FS := List D → MS → (D → MS → Prop) → Prop
def spD (K : PySem.W.Frag) (fs : FS) : Sp := fun vs H Q _ => ∃ F ds ms P, Rel K F H ms ∧ DRs K F vs ds ∧ fs ds ms P ∧
  ∀ d ms' v F' H', P d ms' → Rel K F' H' ms' → Stp F H ms F' H' ms' → DR K F' v d → Q v H'
section
variable {X : Cx} {k n : Nat} {f : Addr} {fd : FuncData} {ps ks : List Str} {is : List Nat} {sp : Sp} {fs : FS} {x : Str} {p pos kpos : Pos} {e : Expr} {es : List Expr} {kws : List Keyword} {aa ak : DA} {da : DE} {nm : Option Str}
theorem run_g {pins : List (Addr × Obj)} {σ : L2.St} {H : Hp} {s : Shared} {Q : VK} {us ws : List Value} {vs zs : List V} (F : FnG X.prog X.w X.K X.mg X.base k f fd ps sp) (hr : RoomG k X.A) (hb : Bnd X.K fd ps n ks is)
    (I : Inv X pins σ H s) (r : Vals vs us) (rz : Vals zs ws) (l1 : vs.length = n) (l2 : zs.length = ks.length) (h : sp (pick is (vs ++ zs)) H Q E0) :
    wpAny (model X.prog X.w) X.A (call (.ref f) us (ks.zip ws)) (EP X pins σ Q) X.xe s := by
  have hb' := hb.to s us ws I.kIn (r.length ▸ l1) (rz.length ▸ l2)
  have hg := F.go X.A X.stack s H ⟨us, ks.zip ws⟩ _ _ Q hr I.env0 hb' (pick_vals (r.append rz) is) h
  refine wpAny_call (codeAny_mono hg fun r s' hq => ?_)
  match r, hq with
  | .error _, hq => exact hq.elim
  | .ok (.ret u), hq => exact I.after hq
  | .ok .next, hq => exact False.elim hq
  | .ok .brk, hq => exact False.elim hq
  | .ok .cont, hq => exact False.elim hq
abbrev PDK (X : Cx) (kws : List Keyword) (aa : DA) : Prop := PK X kws (liftA X.K aa)
theorem pkImp {X : Cx} {e : List Keyword} {t t' : TA} (h : PK X e t) (hi : ∀ σ H Q, t' σ H Q → t σ H Q) : PK X e t' := ⟨fun pos pins s σ H Q I hq => h.run pos pins s σ H Q I (hi σ H Q hq)⟩
theorem pdk_nil : PDK X [] aNil := pkImp pk_nil fun σ H Q ⟨F, ds, ms, P, R, S, h1, h2⟩ => h2 [] ms [] F H h1 R Stp.refl .nil
theorem pdk_cons (ha : PD X e da) (hr : PDK X kws aa) : PDK X (⟨nm, e, kpos⟩ :: kws) (aCons da aa) :=
  pkImp (pk_cons ha hr) fun σ H Q ⟨F, ds, ms, P, R, S, h1, h2⟩ =>
    ⟨F, ds, ms, _, R, S, h1, fun dx m1 x F1 H1 p1 R1 s1 r1 => ⟨F1, ds, m1, _, R1, S.mono s1.sub, p1, fun xs m2 vs F2 H2 p2 R2 s2 r2 =>
      h2 _ m2 (x :: vs) F2 H2 p2 R2 (s1.trans s2) (.cons (r1.mono s2.sub) r2)⟩⟩
/-- f(..): n positional ones, the others by keywords -/
def dCall (n : Nat) (m : Nat) (is : List Nat) (fs : FS) (aa ak : DA) : DE := fun ds ms P => aa ds ms fun xs m1 => ak ds m1 fun zs m2 => xs.length = n ∧ zs.length = m ∧ fs (pick is (xs ++ zs)) m2 P
def tCallG (n m : Nat) (is : List Nat) (sp : Sp) (t tk : TA) : TE := fun σ H Q => t σ H fun vs H1 => tk σ H1 fun zs H2 => vs.length = n ∧ zs.length = m ∧ sp (pick is (vs ++ zs)) H2 Q E0
theorem lift_call {K : PySem.W.Frag} {m : Nat} : ∀ σ H Q, lift K (dCall n m is fs aa ak) σ H Q → tCallG n m is (spD K fs) (liftA K aa) (liftA K ak) σ H Q := fun σ H Q ⟨F, ds, ms, P, R, S, h1, h2⟩ =>
  ⟨F, ds, ms, _, R, S, h1, fun xs m1 vs F1 H1 p1 R1 s1 r1 => ⟨F1, ds, m1, _, R1, S.mono s1.sub, p1, fun zs m2 ws F2 H2 p2 R2 s2 r2 => by
    obtain ⟨l1, l2, p2⟩ := p2
    refine ⟨r1.length.trans l1, r2.length.trans l2, F2, _, m2, P, R2, pick_drs ((r1.mono s2.sub).append r2) is, p2, fun d m3 v F3 H3 p3 R3 s3 r3 => ?_⟩
    exact h2 d m3 v F3 H3 p3 R3 (s1.trans (s2.trans s3)) r3⟩⟩
theorem pd_call (F : FnG X.prog X.w X.K X.mg X.base k f fd ps (spD X.K fs)) (hr : RoomG k X.A) (hg : Gl X x) (hm : X.mg x = some (.ref f)) (hk : PySem.W.keepIn X.K (.ref f) = true) (hb : Bnd X.K fd ps n [] is)
    (ha : PDA X (e :: es) aa) (hdb : (x == ("__debug__" : Str)) = false := by decide)
    (he : starEach (e :: es) X.env = (false, eval e X.env) :: starEach es X.env := by rfl)
    (hpl : (backTo pos (starEach es X.env)).any (·.1) = false := by rfl) :
    PD X (.Call (.Name x p) (e :: es) [] pos) (dCall n 0 is fs aa aNil) := by
  refine peImp (t := tCallG n 0 is (spD X.K fs) (liftA X.K aa) (liftA X.K aNil)) ⟨fun pins s σ H Q I h => ?_⟩ lift_call
  have h' : liftA X.K aa σ H (fun vs H1 => vs.length = n ∧ spD X.K fs (pick is (vs ++ [])) H1 Q E0) := by
    obtain ⟨F0, ds, ms, P, R, S, h1, h2⟩ := h
    refine ⟨F0, ds, ms, P, R, S, h1, fun xs m v F1 H1 p1 R1 s1 r1 => ?_⟩
    obtain ⟨F2, ds2, m2, P2, R2, S2, p2, q2⟩ := h2 xs m v F1 H1 p1 R1 s1 r1
    obtain ⟨l1, l2, z⟩ := q2 [] m2 [] F2 H1 p2 R2 Stp.refl .nil
    exact ⟨l1, z⟩
  refine wpAny_Call_Name_kw (ld_glob I hg hm ?_ hdb)
  refine PySem.W.callWith_K (h₀ := X.base) I.ok.mod.kin hk (thn (ha.run pos pins s σ H _ I h') ?_) he hpl
  rintro us s1 ⟨vs, H1, I1, r, l, q⟩
  exact ⟨I1.kIn, run_g (ws := []) (ks := []) F hr hb I1 r .nil l rfl q⟩
theorem pd_callK {m : Nat} (F : FnG X.prog X.w X.K X.mg X.base k f fd ps (spD X.K fs)) (hr : RoomG k X.A) (hg : Gl X x) (hm : X.mg x = some (.ref f)) (hk : PySem.W.keepIn X.K (.ref f) = true) (hb : Bnd X.K fd ps n ks is)
    (ha : PDA X (e :: es) aa) (hkw : PDK X kws ak) (hdb : (x == ("__debug__" : Str)) = false := by decide)
    (hall : (backToKw pos (keywordEach kws X.env)).all (·.1.isSome) = true := by rfl) (hks : (backToKw pos (keywordEach kws X.env)).filterMap (·.1) = ks := by rfl)
    (he : starEach (e :: es) X.env = (false, eval e X.env) :: starEach es X.env := by rfl)
    (hpl : ((backTo pos (starEach (e :: es) X.env)).any (·.1) || (backToKw pos (keywordEach kws X.env)).any (·.1.isNone)) = false := by rfl)
    (hlen : ks.length = m := by rfl) :
    PD X (.Call (.Name x p) (e :: es) kws pos) (dCall n m is fs aa ak) := by
  subst hlen
  refine peImp (t := tCallG n ks.length is (spD X.K fs) (liftA X.K aa) (liftA X.K ak)) ⟨fun pins s σ H Q I h => ?_⟩ lift_call
  refine wpAny_Call_Name_kw (ld_glob I hg hm ?_ hdb)
  refine PySem.W.callWith_KW (h₀ := X.base) I.ok.mod.kin hk hall (thn (ha.run pos pins s σ H _ I h) ?_) hpl he
  rintro us s1 ⟨vs, H1, I1, r, q⟩
  refine thn (hkw.run pos pins s1 σ H1 _ I1 q) ?_
  rintro ws s2 ⟨zs, H2, I2, rz, l1, l2, q2⟩
  refine ⟨I2.kIn, ?_⟩
  rw [hks]
  exact run_g F hr hb I2 r rz l1 l2 q2
theorem pd_callK0 {m : Nat} (F : FnG X.prog X.w X.K X.mg X.base k f fd ps (spD X.K fs)) (hr : RoomG k X.A) (hg : Gl X x) (hm : X.mg x = some (.ref f)) (hk : PySem.W.keepIn X.K (.ref f) = true) (hb : Bnd X.K fd ps 0 ks is)
    (hkw : PDK X kws ak) (hdb : (x == ("__debug__" : Str)) = false := by decide)
    (hall : (backToKw pos (keywordEach kws X.env)).all (·.1.isSome) = true := by rfl) (hks : (backToKw pos (keywordEach kws X.env)).filterMap (·.1) = ks := by rfl)
    (hpl : ((backTo pos (starEach [] X.env)).any (·.1) || (backToKw pos (keywordEach kws X.env)).any (·.1.isNone)) = false := by rfl)
    (hlen : ks.length = m := by rfl) :
    PD X (.Call (.Name x p) [] kws pos) (dCall 0 m is fs aNil ak) := by
  subst hlen
  refine peImp (t := tCallG 0 ks.length is (spD X.K fs) tNil (liftA X.K ak)) ⟨fun pins s σ H Q I h => ?_⟩ fun σ H Q h => ?_
  · refine wpAny_Call_Name_kw (ld_glob I hg hm ?_ hdb)
    refine PySem.W.callWith_KW0 (h₀ := X.base) I.ok.mod.kin hk hall (thn (hkw.run pos pins s σ H _ I h) ?_) hpl
    rintro ws s2 ⟨zs, H2, I2, rz, l1, l2, q2⟩
    refine ⟨I2.kIn, ?_⟩
    rw [hks]
    exact run_g (us := []) F hr hb I2 .nil rz rfl l2 q2
  · obtain ⟨F0, ds, ms, P, R, S, h1, h2⟩ := lift_call σ H Q h
    exact h2 [] ms [] F0 H h1 R Stp.refl .nil
theorem pd_call0 (F : FnG X.prog X.w X.K X.mg X.base k f fd ps (spD X.K fs)) (hr : RoomG k X.A) (hg : Gl X x) (hm : X.mg x = some (.ref f)) (hk : PySem.W.keepIn X.K (.ref f) = true) (hb : Bnd X.K fd ps 0 [] is)
    (hdb : (x == ("__debug__" : Str)) = false := by decide) : PD X (.Call (.Name x p) [] [] pos) (dCall 0 0 is fs aNil aNil) := by
  refine peImp (t := tCallG 0 0 is (spD X.K fs) tNil tNil) ⟨fun pins s σ H Q I h => ?_⟩ fun σ H Q h => ?_
  · refine wpAny_Call_Name_kw (ld_glob I hg hm ?_ hdb)
    exact PySem.W.callWith_K0 I.kIn hk (run_g (us := []) (ws := []) (ks := []) F hr hb I .nil .nil rfl rfl h.2.2)
  · obtain ⟨F0, ds, ms, P, R, S, h1, h2⟩ := lift_call σ H Q h
    obtain ⟨F2, ds2, m2, P2, R2, S2, p2, q2⟩ := h2 [] ms [] F0 H h1 R Stp.refl .nil
    exact q2 [] m2 [] F2 H p2 R2 Stp.refl .nil
end

/-! ### a def keeps its promise -/
def startD : Nat → List D → DS
  | 0, _ => []
  | n + 1, [] => none :: startD n []
  | n + 1, d :: r => some d :: startD n r
theorem sl_start {K : PySem.W.Frag} {F : Hp} {N : List Str} {vs : List V} {ds : List D} (r : DRs K F vs ds) (hl : vs.length ≤ N.length) : Sl K F (L2.start N vs) (startD N.length ds) := by
  unfold L2.start
  have hrep : ∀ m : Nat, Sl K F (List.replicate m none) (startD m []) := fun m => by
    induction m with
    | zero => exact .nil
    | succ m ih => exact .nn ih
  have go : ∀ {vs : List V} {ds : List D} (m : Nat), DRs K F vs ds → vs.length ≤ m → Sl K F (vs.map some ++ List.replicate (m - vs.length) none) (startD m ds) := by
    intro vs
    induction vs with
    | nil => intro ds m r _; cases r; exact hrep m
    | cons v vs ih =>
      intro ds m r hm
      cases r with
      | cons r1 r2 =>
        cases m with
        | zero => simp at hm
        | succ m =>
          have e : m + 1 - (v :: vs).length = m - vs.length := by rw [List.length_cons]; omega
          rw [e]
          exact .sm r1 (ih m r2 (by rw [List.length_cons] at hm; omega))
  exact go _ r hl
theorem fnG_of {P : Program} {w : World} {K : PySem.W.Frag} {mg : Str → Option Value} {base : Heap} {k : Nat} {f : Addr} {fd : FuncData} {x qual : Str} {st : Stmt} {N ps : List Str} {fs : FS} {t : DTS}
    (F : Fun K x qual st f fd) (S : FnScope N ps (defScope st)) (len : ∀ ds ms Q, fs ds ms Q → ds.length = ps.length)
    (body : ∀ (cdv : Value) (A : Around) (outer : List Env) (s : Shared) (H : Hp), RoomG k (A.deeper (envOfC qual (defScope st) s.heap.objs.size f cdv)) →
      PDSs (cxOf CX0 P w K mg base N qual (defScope st) f cdv A outer s H E0).nox (defBody st) t)
    (sem : ∀ ds ms Q, fs ds ms Q → t { nx := fun _ m => Q .non m, rt := Q } (startD N.length ds) ms) : FnG P w K mg base (k + 1) f fd ps (spD K fs) := by
  have hlen : ∀ vs H Q E, spD K fs vs H Q E → vs.length = ps.length := by
    rintro vs H Q E ⟨F0, ds, ms, P0, R, r, h, _⟩
    rw [r.length]
    exact len ds ms P0 h
  refine ⟨hlen, ?_⟩
  intro A outer s H args us vs Q hr e0 hb r hsp
  obtain ⟨oc, od, kV, doc, pm, an, cdv, ct, osl, rfl, lk, hcd⟩ := F.ex
  have hl := hlen _ _ _ _ hsp
  have KX : K.In s.heap := e0.mod.kin.keeps fun b o e => (e0.bs b o e).1
  have lim : s.heap.NoLimit := e0.mod.nolimit.keeps fun b o e => (e0.bs b o e).1
  have hkind : ∀ y ∈ ps.zip us, (defScope st).names.lookup y.1 = some .local ∨ ((defScope st).names.lookup y.1 = some .cell ∧
      ((cellsFrom (s.heap.objs.size + 1) (defScope st).names []).lookup y.1).isSome = true) := by
    rintro ⟨n, v⟩ hy
    exact (S.par n (List.of_mem_zip hy).1).imp id fun q => ⟨q, PySem.W.cellsFrom_some _ _ _ (.inl q)⟩
  have hr2 : RoomG k (A.deeper (envOfC qual (defScope st) s.heap.objs.size f cdv)) := ⟨hr.r.deeper _, hr.g⟩
  refine codeAny_call_function hr.r.depth (KX _ _ lk) rfl S.co S.gen rfl (PySem.W.codeRec_of KX hcd) (hb _ _ _ _ ?_)
  refine wpAny_newFunctionEnv_cells S.kind hkind fun env he s1 x1 => ?_
  subst he
  refine ⟨lim.keeps x1.toInCall.keep, codeAny_func ?_⟩
  have I : Inv (cxOf CX0 P w K mg base N qual (defScope st) f cdv A outer s H E0) [] (L2.start N vs) H s1 := inv_start S hr.r.hd e0 hl r x1
  have hq : liftS K t { nx := fun _ H' => Q .non H', rt := Q } (L2.start N vs) H := by
    obtain ⟨F0, ds, ms, P0, R, rd, h, q⟩ := hsp
    refine ⟨F0, startD N.length ds, ms, _, R, sl_start rd (by rw [hl, ← S.pre]; exact List.length_take_le' _ _), sem ds ms P0 h, ?_, ?_, ?_, ?_⟩
    · exact fun ds' ms' σ' F' H' z R' s' S' => q .non ms' .non F' H' z R' s' .non
    · exact fun d ms' v F' H' z R' s' r' => q d ms' v F' H' z R' s' r'
    · exact fun _ _ _ _ _ z _ _ _ => z.elim
    · exact fun _ _ _ _ _ z _ _ _ => z.elim
  have hrun := ((body cdv A outer s H hr2).nox).run [] s1 (L2.start N vs) H _ I hq
  refine wpAny_mono hrun (fun fl s' hs => ?_) fun e s' hs => hs
  match fl, hs with
  | .ret u, hs =>
    obtain ⟨v, σ', H', J, rv, q⟩ := hs
    exact ⟨v, H', J.os, J.bare, J.base, J.hok, rv, q⟩
  | .next, hs =>
    obtain ⟨σ', H', J, q⟩ := hs
    exact ⟨V.non, H', J.os, J.bare, J.base, J.hok, rfl, q⟩
  | .brk, hs => obtain ⟨_, _, _, q⟩ := hs; exact False.elim q
  | .cont, hs => obtain ⟨_, _, _, q⟩ := hs; exact False.elim q
end DL

namespace DL
open PySem PySem.Spec PyProof.Rows L2

/-! ### what is walked -/
abbrev DI := DS → MS → (List D → MS → Prop) → Prop
def YD (K : PySem.W.Frag) (F : Hp) (xs : List D) : Nat → Hp → V → Hp → Prop := fun i H x H' => ∃ d, xs[i]? = some d ∧
  ((H' = H ∧ DR K F x d) ∨ ∃ T a b da db, x = .ref T ∧ H T = none ∧ H' = upd H T (.tup [a, b]) ∧ d = .tup [da, db] ∧ DR K F a da ∧ DR K F b db)
abbrev ItD (K : PySem.W.Frag) (J : It) (xs : List D) (F : Hp) : Prop := Walk J xs.length (fun H => Sub F H) (YD K F xs)
def liftI (K : PySem.W.Frag) (di : DI) : TI := fun σ H R => ∃ F ds ms P, Rel K F H ms ∧ Sl K F σ ds ∧ di ds ms P ∧
  ∀ xs ms' F' H' J, P xs ms' → Rel K F' H' ms' → Stp F H ms F' H' ms' → ItD K J xs F' → R J H'
abbrev PDI (X : Cx) (tg e : Expr) (di : DI) : Prop := PI X tg e (liftI X.K di)
theorem piImp {X : Cx} {tg e : Expr} {t t' : TI} (h : PI X tg e t) (hi : ∀ σ H R, t' σ H R → t σ H R) : PI X tg e t' := ⟨fun pins s σ H R I hq => h.run pins s σ H R I (hi σ H R hq)⟩
theorem itd_list {K : PySem.W.Frag} {F : Hp} {a : Addr} {vs : List V} {xs : List D} (h : SqL K F a vs) (r : DRs K F vs xs) : ItD K (Itl K a) xs F := by
  unfold ItD
  rw [← r.length]
  refine (walk_list (K := K) (a := a) (xs := vs)).mono (fun H s => s.sqL h) fun i H x H' hi s y => ?_
  obtain ⟨d, h1, h2⟩ := r.getV y.2
  exact ⟨d, h1, .inl ⟨y.1, h2⟩⟩
theorem itd_tup {K : PySem.W.Frag} {F : Hp} {a : Addr} {vs : List V} {xs : List D} (h : SqT K F a vs) (r : DRs K F vs xs) : ItD K (Itt K a) xs F := by
  unfold ItD
  rw [← r.length]
  refine (walk_tup (K := K) (a := a) (xs := vs)).mono (fun H s => s.sqT h) fun i H x H' hi s y => ?_
  obtain ⟨d, h1, h2⟩ := r.getV y.2
  exact ⟨d, h1, .inl ⟨y.1, h2⟩⟩
/-- lo, lo + 1, .. -/
def rng (lo : Int) (n : Nat) : List D := (List.range n).map fun i => D.int (lo + (i : Nat))
theorem itd_range {K : PySem.W.Frag} {F : Hp} {lo : Int} {n : Nat} : ItD K (Itr lo n) (rng lo n) F := by
  unfold ItD
  have e : (rng lo n).length = n := by unfold rng; simp
  rw [e]
  refine (walk_range (lo := lo) (n := n)).mono (fun H s => trivial) fun i H x H' hi s y => ?_
  refine ⟨.int (lo + (i : Nat)), ?_, .inl ⟨y.1, by rw [y.2]; exact .int _⟩⟩
  unfold rng
  rw [List.getElem?_map, List.getElem?_range hi]; rfl
def rngC (lo c : Int) (n : Nat) : List D := (List.range n).map fun i => D.int (lo + (i : Nat) * c)
theorem itd_rangeC {K : PySem.W.Frag} {F : Hp} {lo c : Int} {n : Nat} : ItD K (Itc lo c n) (rngC lo c n) F := by
  unfold ItD
  have e : (rngC lo c n).length = n := by unfold rngC; simp
  rw [e]
  refine (walk_rangeC (lo := lo) (c := c) (n := n)).mono (fun H s => trivial) fun i H x H' hi s y => ?_
  refine ⟨.int (lo + (i : Nat) * c), ?_, .inl ⟨y.1, by rw [y.2]; exact .int _⟩⟩
  unfold rngC
  rw [List.getElem?_map, List.getElem?_range hi]; rfl
def zipD (xs ys : List D) : List D := List.zipWith (fun x y => D.tup [x, y]) xs ys
theorem itd_zip {K : PySem.W.Frag} {F : Hp} {a b : Addr} {vs ws : List V} {xs ys : List D} (h : SqL K F a vs) (r : DRs K F vs xs) (h2 : SqL K F b ws) (r2 : DRs K F ws ys) : ItD K (Itz K a b) (zipD xs ys) F := by
  unfold ItD
  have e : (zipD xs ys).length = min vs.length ws.length := by unfold zipD; rw [List.length_zipWith, r.length, r2.length]
  rw [e]
  refine (walk_zip (K := K) (a := a) (b := b) (xs := vs) (ys := ws) rfl).mono (fun H s => ⟨s.sqL h, s.sqL h2⟩) fun i H x H' hi s y => ?_
  obtain ⟨T, u, w, e1, e2, e3, e4, e5⟩ := y
  obtain ⟨d, z1, z2⟩ := r.getV e4
  obtain ⟨d', z3, z4⟩ := r2.getV e5
  refine ⟨.tup [d, d'], ?_, .inr ⟨T, u, w, d, d', e1, e2, e3, rfl, z2, z4⟩⟩
  unfold zipD
  rw [List.getElem?_zipWith, z1, z3]
def enumD (xs : List D) : List D := List.zipWith (fun x y => D.tup [x, y]) (rng 0 xs.length) xs
theorem itd_enum {K : PySem.W.Frag} {F : Hp} {a : Addr} {vs : List V} {xs : List D} (h : SqL K F a vs) (r : DRs K F vs xs) : ItD K (Ite K a) (enumD xs) F := by
  unfold ItD
  have e : (enumD xs).length = vs.length := by unfold enumD rng; rw [List.length_zipWith, List.length_map, List.length_range, r.length]; simp
  rw [e]
  refine (walk_enum (K := K) (a := a) (xs := vs)).mono (fun H s => s.sqL h) fun i H x H' hi s y => ?_
  obtain ⟨T, u, w, e1, e2, e3, e4, e5⟩ := y
  obtain ⟨d, z1, z2⟩ := r.getV e5
  have e4' : u = .int (i : Nat) := (Option.some.inj e4).symm
  subst e4'
  refine ⟨.tup [.int (i : Nat), d], ?_, .inr ⟨T, _, w, _, d, e1, e2, e3, rfl, .int _, z2⟩⟩
  unfold enumD rng
  rw [r.length] at hi
  rw [List.getElem?_zipWith, z1, List.getElem?_map, List.getElem?_range hi]
  simp
theorem itd_rev {K : PySem.W.Frag} {F : Hp} {a : Addr} {vs : List V} {xs : List D} (h : SqL K F a vs) (r : DRs K F vs xs) : ItD K (Itv K a vs.length) xs.reverse F := by
  unfold ItD
  rw [List.length_reverse, ← r.length]
  refine (walk_rev (K := K) (a := a) (xs := vs)).mono (fun H s => s.sqL h) fun i H x H' hi s y => ?_
  obtain ⟨d, h1, h2⟩ := r.getV y.2
  refine ⟨d, ?_, .inl ⟨y.1, h2⟩⟩
  rw [List.getElem?_reverse (by rw [← r.length]; exact hi), ← r.length]
  exact h1
def strD (z : Str) : List D := z.cps.toList.map fun c => D.str ⟨#[c]⟩
theorem itd_str {K : PySem.W.Frag} {F : Hp} {z : Str} : ItD K (Its z) (strD z) F := by
  unfold ItD
  have e : (strD z).length = z.cps.size := by unfold strD; simp
  rw [e]
  refine (walk_str (z := z)).mono (fun H s => trivial) fun i H x H' hi s y => ?_
  obtain ⟨e1, c, e2, e3⟩ := y
  refine ⟨.str ⟨#[c]⟩, ?_, .inl ⟨e1, by rw [e3]; exact .str _⟩⟩
  unfold strD
  rw [List.getElem?_map, Array.getElem?_toList, e2]; rfl

/-- the items of what is a list here: known, or one that may change -/
def look : MS → Addr → Option (List D)
  | [], _ => none
  | (q, xs) :: r, p => if q = p then some xs else look r p
def asL (d : D) (ms : MS) : Option (List D) := match d with
  | .lst xs => some xs
  | .fro xs => some xs
  | .opq (.ref p) => look ms p
  | _ => none
theorem look_mem : ∀ {ms : MS} {p : Addr} {xs : List D}, look ms p = some xs → (p, xs) ∈ ms
  | [], _, _, h => by cases h
  | (q, ys) :: r, p, xs, h => by
    unfold look at h
    by_cases e : q = p
    · rw [if_pos e] at h; cases h; subst e; exact List.mem_cons_self
    · rw [if_neg e] at h; exact List.mem_cons_of_mem _ (look_mem h)
section
variable {K : PySem.W.Frag} {F H : Hp} {ms : MS}
theorem Rel.look (R : Rel K F H ms) {p : Addr} {xs : List D} (h : look ms p = some xs) : F p = none ∧ ∃ vs, H p = some (.lst vs) ∧ DRs K F vs xs := R.mu (p, xs) (look_mem h)
theorem Rel.asL (R : Rel K F H ms) {v : V} {d : D} {xs : List D} (r : DR K F v d) (h : asL d ms = some xs) : ∃ a vs, v = .ref a ∧ SqL K H a vs ∧ DRs K F vs xs := by
  cases r with
  | lst h1 h2 => cases h; exact ⟨_, _, rfl, SqL.of (R.sub _ _ h1), h2⟩
  | fro h1 h2 => cases h; exact ⟨_, _, rfl, R.sub.sqL h1, h2⟩
  | opq v =>
    cases v with
    | ref p =>
      obtain ⟨_, vs, h1, h2⟩ := R.look h
      exact ⟨p, vs, rfl, SqL.of h1, h2⟩
    | _ => cases h
  | _ => cases h
end
section
variable {X : Cx} {tg e e2 : Expr} {da db : DE} {aa : DA} {p pos tpos : Pos} {elts : List Expr} {kk : Nat}
/-- a list, a tuple, a text that are known -/
def iSeq (de : DE) : DI := fun ds ms P => de ds ms fun d m => match d with
  | .lst xs => P xs m
  | .fro xs => P xs m
  | _ => False
def iTupD (de : DE) : DI := fun ds ms P => de ds ms fun d m => match d with
  | .tup xs => P xs m
  | _ => False
def iStrD (de : DE) : DI := fun ds ms P => de ds ms fun d m => match d with
  | .str z => P (strD z) m
  | _ => False
theorem pdi_list (h : PD X e da) : PDI X tg e (iSeq da) := piImp (pi_list h) fun σ H R ⟨F, ds, ms, P, Rl, S, h1, h2⟩ =>
  ⟨F, ds, ms, _, Rl, S, h1, fun d m v F1 H1 p1 R1 s1 r1 => by
    cases r1 with
    | lst ha hs => exact ⟨_, rfl, ⟨_, SqL.of (R1.sub _ _ ha)⟩, h2 _ m F1 H1 _ p1 R1 s1 (itd_list (SqL.of ha) hs)⟩
    | fro ha hs => exact ⟨_, rfl, ⟨_, R1.sub.sqL ha⟩, h2 _ m F1 H1 _ p1 R1 s1 (itd_list ha hs)⟩
    | _ => exact p1.elim⟩
theorem pdi_tup (h : PD X e da) : PDI X tg e (iTupD da) := piImp (pi_tup h) fun σ H R ⟨F, ds, ms, P, Rl, S, h1, h2⟩ =>
  ⟨F, ds, ms, _, Rl, S, h1, fun d m v F1 H1 p1 R1 s1 r1 => by
    cases r1 with
    | tup ha hs => exact ⟨_, rfl, ⟨_, R1.sub.sqT ha⟩, h2 _ m F1 H1 _ p1 R1 s1 (itd_tup ha hs)⟩
    | _ => exact p1.elim⟩
theorem pdi_str (h : PD X e da) : PDI X tg e (iStrD da) := piImp (pi_str h) fun σ H R ⟨F, ds, ms, P, Rl, S, h1, h2⟩ =>
  ⟨F, ds, ms, _, Rl, S, h1, fun d m v F1 H1 p1 R1 s1 r1 => by
    cases r1 with
    | str z => exact ⟨z, rfl, h2 _ m F1 H1 _ p1 R1 s1 itd_str⟩
    | _ => exact p1.elim⟩
def iRange1 (aa : DA) : DI := fun ds ms P => aa ds ms fun xs m => match xs with
  | [.int j] => (-(2 ^ 62) ≤ j ∧ j < 2 ^ 62) ∧ P (rng 0 j.toNat) m
  | _ => False
def iRange2 (aa : DA) : DI := fun ds ms P => aa ds ms fun xs m => match xs with
  | [.int i, .int j] => (-(2 ^ 62) ≤ i ∧ i < 2 ^ 62 ∧ -(2 ^ 62) ≤ j ∧ j < 2 ^ 62) ∧ P (rng i (j - i).toNat) m
  | _ => False
def iRange3 (aa : DA) : DI := fun ds ms P => aa ds ms fun xs m => match xs with
  | [.int i, .int j, .int c] => ∃ n, RgC i j c n ∧ P (rngC i c n) m
  | _ => False
theorem pdi_range1 (hg : Gl X "range") (hm : X.mg "range" = none) (ha : PDA X [e] aa) (hs : starEach [e] X.env = [(false, eval e X.env)] := by rfl) : PDI X tg (.Call (.Name "range" p) [e] [] pos) (iRange1 aa) :=
  piImp (pi_range1 hg hm ha hs) fun σ H R ⟨F, ds, ms, P, Rl, S, h1, h2⟩ =>
    ⟨F, ds, ms, _, Rl, S, h1, fun xs m vs F1 H1 p1 R1 s1 r1 => by
      match xs, r1, p1 with
      | [.int j], .cons (.int _) .nil, p1 => exact ⟨j, rfl, p1.1.1, p1.1.2, h2 _ m F1 H1 _ p1.2 R1 s1 itd_range⟩⟩
theorem pdi_range2 (hg : Gl X "range") (hm : X.mg "range" = none) (ha : PDA X [e, e2] aa) (hs : starEach [e, e2] X.env = [(false, eval e X.env), (false, eval e2 X.env)] := by rfl) (hs2 : starEach [e2] X.env = [(false, eval e2 X.env)] := by rfl) :
    PDI X tg (.Call (.Name "range" p) [e, e2] [] pos) (iRange2 aa) :=
  piImp (pi_range2 hg hm ha hs hs2) fun σ H R ⟨F, ds, ms, P, Rl, S, h1, h2⟩ =>
    ⟨F, ds, ms, _, Rl, S, h1, fun xs m vs F1 H1 p1 R1 s1 r1 => by
      match xs, r1, p1 with
      | [.int i, .int j], .cons (.int _) (.cons (.int _) .nil), p1 => exact ⟨i, j, rfl, p1.1, h2 _ m F1 H1 _ p1.2 R1 s1 itd_range⟩⟩
theorem pdi_range3 {e3 : Expr} (hg : Gl X "range") (hm : X.mg "range" = none) (ha : PDA X [e, e2, e3] aa)
    (hs : starEach [e, e2, e3] X.env = (false, eval e X.env) :: starEach [e2, e3] X.env := by rfl) (hpl : (backTo pos (starEach [e2, e3] X.env)).any (·.1) = false := by rfl) :
    PDI X tg (.Call (.Name "range" p) [e, e2, e3] [] pos) (iRange3 aa) :=
  piImp (pi_range3 hg hm ha hs hpl) fun σ H R ⟨F, ds, ms, P, Rl, S, h1, h2⟩ =>
    ⟨F, ds, ms, _, Rl, S, h1, fun xs m vs F1 H1 p1 R1 s1 r1 => by
      match xs, r1, p1 with
      | [.int i, .int j, .int c], .cons (.int _) (.cons (.int _) (.cons (.int _) .nil)), ⟨n, hn, p1⟩ => exact ⟨i, j, c, n, rfl, hn, h2 _ m F1 H1 _ p1 R1 s1 itd_rangeC⟩⟩
def iZipD (aa : DA) : DI := fun ds ms P => aa ds ms fun xs m => match xs with
  | [.lst a, .lst b] => P (zipD a b) m
  | _ => False
theorem pdi_zip (hg : Gl X "zip") (hm : X.mg "zip" = none) (ha : PDA X [e, e2] aa)
    (hs : starEach [e, e2] X.env = (false, eval e X.env) :: starEach [e2] X.env := by rfl) (hpl : (backTo pos (starEach [e2] X.env)).any (·.1) = false := by rfl) :
    PDI X (.Tuple elts kk tpos) (.Call (.Name "zip" p) [e, e2] [] pos) (iZipD aa) :=
  piImp (pi_zip hg hm ha hs hpl) fun σ H R ⟨F, ds, ms, P, Rl, S, h1, h2⟩ =>
    ⟨F, ds, ms, _, Rl, S, h1, fun xs m vs F1 H1 p1 R1 s1 r1 => by
      match xs, r1, p1 with
      | [.lst a, .lst b], .cons (.lst ha hs) (.cons (.lst hb hs2) .nil), p1 =>
        exact ⟨_, _, _, _, rfl, SqL.of (R1.sub _ _ ha), SqL.of (R1.sub _ _ hb), h2 _ m F1 H1 _ p1 R1 s1 (itd_zip (SqL.of ha) hs (SqL.of hb) hs2)⟩⟩
def iEnumD (aa : DA) : DI := fun ds ms P => aa ds ms fun xs m => match xs with
  | [.lst a] => P (enumD a) m
  | _ => False
theorem pdi_enum (hg : Gl X "enumerate") (hm : X.mg "enumerate" = none) (ha : PDA X [e] aa) (hs : starEach [e] X.env = [(false, eval e X.env)] := by rfl) :
    PDI X (.Tuple elts kk tpos) (.Call (.Name "enumerate" p) [e] [] pos) (iEnumD aa) :=
  piImp (pi_enum hg hm ha hs) fun σ H R ⟨F, ds, ms, P, Rl, S, h1, h2⟩ =>
    ⟨F, ds, ms, _, Rl, S, h1, fun xs m vs F1 H1 p1 R1 s1 r1 => by
      match xs, r1, p1 with
      | [.lst a], .cons (.lst ha hs) .nil, p1 => exact ⟨_, _, rfl, SqL.of (R1.sub _ _ ha), h2 _ m F1 H1 _ p1 R1 s1 (itd_enum (SqL.of ha) hs)⟩⟩
end

/-! ### for -/
def loopD (g : DG) (tb : DTS) (E : EN) : List D → DS → MS → Prop
  | [], ds, ms => E.nx ds ms
  | x :: r, ds, ms => g x ds fun ds1 => tb { E with nx := loopD g tb E r, ct := loopD g tb E r, bk := E.nx } ds1 ms
def dFor (di : DI) (g : DG) (tb : DTS) : DTS := fun E ds ms => di ds ms fun xs m => loopD g tb E xs ds m
section
variable {K : PySem.W.Frag} {di : DI} {dg : DG} {tb : DTS} {g : TG} {vs : List Nat}
theorem drop_get {xs : List D} {i : Nat} {d : D} (h : xs[i]? = some d) : xs.drop i = d :: xs.drop (i + 1) := by
  obtain ⟨hi, e⟩ := List.getElem?_eq_some_iff.mp h
  rw [List.drop_eq_getElem_cons hi, e]
theorem lift_for (hg : TgD K g dg vs) : ∀ D σ H, liftS K (dFor di dg tb) D σ H → tFor (liftI K di) g (liftS K tb) D σ H := fun D σ H ⟨F, ds, ms, E, R, S, h, n, r, k, q⟩ => by
  refine ⟨F, ds, ms, _, R, S, h, fun xs m F0 H0 J p0 R0 s0 wk => ?_⟩
  refine for_it wk (fun i σ1 H1 => ∃ F1 ds1 m1, Rel K F1 H1 m1 ∧ Stp F H ms F1 H1 m1 ∧ Sub F0 F1 ∧ Sl K F1 σ1 ds1 ∧ loopD dg tb E (xs.drop i) ds1 m1)
    ⟨F0, ds, m, R0, s0, Sub.refl F0, S.mono s0.sub, p0⟩ (fun i σ1 H1 _ ⟨F1, ds1, m1, R1, s1, s01, S1, h1⟩ => s01.trans R1.sub) ?_ ?_
  · rintro i x σ1 H1 H2 hi ⟨F1, ds1, m1, R1, s1, s01, S1, h1⟩ ⟨d, hd, hy⟩
    rw [drop_get hd] at h1
    have fin : ∀ {F2 : Hp} {x : V}, Rel K F2 H2 m1 → Stp F H ms F2 H2 m1 → Sub F1 F2 → DR K F2 x d →
        g x σ1 H2 fun σ2 H3 => liftS K tb { D with nx := fun σ1 H1 => ∃ F1 ds1 m1, Rel K F1 H1 m1 ∧ Stp F H ms F1 H1 m1 ∧ Sub F0 F1 ∧ Sl K F1 σ1 ds1 ∧ loopD dg tb E (xs.drop (i + 1)) ds1 m1, ct := fun σ1 H1 => ∃ F1 ds1 m1, Rel K F1 H1 m1 ∧ Stp F H ms F1 H1 m1 ∧ Sub F0 F1 ∧ Sl K F1 σ1 ds1 ∧ loopD dg tb E (xs.drop (i + 1)) ds1 m1, bk := D.nx } σ2 H3 := by
      intro F2 x R2 s2 s12 rx
      refine hg.snd x σ1 F2 H2 _ d ds1 _ R2.sub (S1.mono s12) rx h1 fun ds2 σ2 h2 S2 => ?_
      refine ⟨F2, ds2, m1, _, R2, S2, h2, ?_, ?_, ?_, ?_⟩
      · exact fun ds3 m3 σ3 F3 H3 h3 R3 s3 S3 => ⟨F3, ds3, m3, R3, s2.trans s3, (s01.trans s12).trans s3.sub, S3, h3⟩
      · exact fun d3 m3 v3 F3 H3 h3 R3 s3 r3 => r d3 m3 v3 F3 H3 h3 R3 (s2.trans s3) r3
      · exact fun ds3 m3 σ3 F3 H3 h3 R3 s3 S3 => n ds3 m3 σ3 F3 H3 h3 R3 (s2.trans s3) S3
      · exact fun ds3 m3 σ3 F3 H3 h3 R3 s3 S3 => ⟨F3, ds3, m3, R3, s2.trans s3, (s01.trans s12).trans s3.sub, S3, h3⟩
    rcases hy with ⟨rfl, rx⟩ | ⟨T, a, b, da, db, rfl, hT, rfl, rfl, ra, rb⟩
    · exact fin R1 s1 (Sub.refl F1) (rx.mono s01)
    · exact fin (R1.new hT) (s1.trans (Stp.new R1 hT)) (Sub.new (R1.sub.none hT)) (R1.newTup hT (.cons (ra.mono s01) (.cons (rb.mono s01) .nil)))
  · rintro σ1 H1 ⟨F1, ds1, m1, R1, s1, s01, S1, h1⟩
    rw [List.drop_length] at h1
    exact n ds1 m1 σ1 F1 H1 h1 R1 s1 S1
theorem pds_for {X : Cx} {tg iter : Expr} {body : List Stmt} {pos : Pos} (hc : X.calm = true) (hi : PDI X tg iter di) (hg : PG X tg g) (hd : TgD X.K g dg vs) (hb : PDSs X body tb) (hp : PassesOwn (model X.prog X.w) X.A X.env X.xe := by exact PassesOwn.never)
    (hs : ∀ x, foldedSetIterable iter X.env x = pure x := by intro _; rfl) : PDS X (.For tg iter body [] pos) (dFor di dg tb) := psImp (ps_for hp hc hi hg hb hs) (lift_for hd)
end

/-! ### while -/
def whileD (c : DT) (tb : DTS) (E : EN) : Nat → DS → MS → Prop
  | 0, _, _ => False
  | n + 1, ds, ms => c ds ms fun b m => if b = true then tb { E with nx := whileD c tb E n, ct := whileD c tb E n, bk := E.nx } ds m else E.nx ds m
def dWhile (c : DT) (tb : DTS) : DTS := fun E ds ms => ∃ n, whileD c tb E n ds ms
section
variable {K : PySem.W.Frag} {c : DT} {tb : DTS}
theorem lift_while : ∀ D σ H, liftS K (dWhile c tb) D σ H → tWhile (liftT K c) (liftS K tb) D σ H := fun D σ H ⟨F, ds, ms, E, R, S, ⟨n0, h⟩, n, r, k, q⟩ => by
  refine ⟨fun m σ1 H1 => ∃ F1 ds1 m1, Rel K F1 H1 m1 ∧ Stp F H ms F1 H1 m1 ∧ Sl K F1 σ1 ds1 ∧ whileD c tb E m ds1 m1, ⟨n0, F, ds, ms, R, Stp.refl, S, h⟩, ?_⟩
  rintro m σ1 H1 ⟨F1, ds1, m1, R1, s1, S1, h1⟩
  cases m with
  | zero => exact h1.elim
  | succ m =>
    refine ⟨F1, ds1, m1, _, R1, S1, h1, fun b m2 F2 H2 p2 R2 s2 => ?_⟩
    cases b with
    | false =>
      rw [if_neg Bool.false_ne_true] at p2
      exact iteF (n ds1 m2 σ1 F2 H2 p2 R2 (s1.trans s2) (S1.mono s2.sub))
    | true =>
      rw [if_pos rfl] at p2
      refine iteT ⟨fun σ3 H3 => ∃ F3 ds3 m3, Rel K F3 H3 m3 ∧ Stp F H ms F3 H3 m3 ∧ Sl K F3 σ3 ds3 ∧ whileD c tb E m ds3 m3, fun σ3 H3 h3 => ⟨m, Nat.lt_succ_self m, h3⟩, F2, ds1, m2, _, R2, S1.mono s2.sub, p2, ?_, ?_, ?_, ?_⟩
      · exact fun ds3 m3 σ3 F3 H3 h3 R3 s3 S3 => ⟨F3, ds3, m3, R3, (s1.trans s2).trans s3, S3, h3⟩
      · exact fun d3 m3 v3 F3 H3 h3 R3 s3 r3 => r d3 m3 v3 F3 H3 h3 R3 ((s1.trans s2).trans s3) r3
      · exact fun ds3 m3 σ3 F3 H3 h3 R3 s3 S3 => n ds3 m3 σ3 F3 H3 h3 R3 ((s1.trans s2).trans s3) S3
      · exact fun ds3 m3 σ3 F3 H3 h3 R3 s3 S3 => ⟨F3, ds3, m3, R3, (s1.trans s2).trans s3, S3, h3⟩
theorem pds_while {X : Cx} {e : Expr} {body : List Stmt} {pos : Pos} (hc : PDT X e c) (hb : PDSs X body tb) (hp : PassesOwn (model X.prog X.w) X.A X.env X.xe := by exact PassesOwn.never) : PDS X (.While e body [] pos) (dWhile c tb) :=
  psImp (ps_while hp hc hb) lift_while
end

/-! ### comprehensions -/
def wipeD (ds : DS) : List Nat → DS
  | [] => ds
  | v :: vs => (wipeD ds vs).set v none
theorem Sl.wipe1 {K : PySem.W.Frag} {F : Hp} : ∀ {σ : L2.St} {ds : DS} (i : Nat), Sl K F σ ds → Sl K F (σ.set i none) (ds.set i none)
  | _, _, i, .nil => by cases i <;> exact .nil
  | _, _, 0, .sm _ r => .nn r
  | _, _, 0, .nn r => .nn r
  | _, _, i + 1, .sm q r => .sm q (Sl.wipe1 i r)
  | _, _, i + 1, .nn r => .nn (Sl.wipe1 i r)
theorem Sl.wipe {K : PySem.W.Frag} {F : Hp} {σ : L2.St} {ds : DS} (S : Sl K F σ ds) : ∀ vs : List Nat, Sl K F (L2.wipe σ vs) (wipeD ds vs)
  | [] => S
  | v :: vs => Sl.wipe1 v (Sl.wipe S vs)
theorem wipe_wipe {σ : L2.St} {ws : List Nat} : ∀ {us : List Nat}, (∀ u ∈ us, u ∈ ws) → L2.wipe (L2.wipe σ us) ws = L2.wipe σ ws
  | [], _ => rfl
  | u :: us, h => by
    show L2.wipe ((L2.wipe σ us).set u none) ws = L2.wipe σ ws
    rw [wipe_set (h u List.mem_cons_self), wipe_wipe fun v hv => h v (List.mem_cons_of_mem _ hv)]
theorem Stp.kp {F H F1 H1 : Hp} {ms m1 : MS} (a : Stp F H ms F1 H1 m1) {c : Addr} {o : HO} (h1 : H c = some o) (h2 : F c = none) (h3 : ∀ p ∈ ms, p.1 ≠ c) : H1 c = some o ∧ F1 c = none ∧ ∀ p ∈ m1, p.1 ≠ c := by
  refine ⟨a.keep c o h1 h2 h3, ?_, fun p hp e => ?_⟩
  · cases e : F1 c with
    | none => rfl
    | some u =>
      rcases a.newF c u e with z | z | ⟨p, hp, z⟩
      · rw [h2] at z; cases z
      · rw [h1] at z; cases z
      · exact absurd z (h3 p hp)
  · rcases a.newM p hp with ⟨q, hq, z⟩ | z | ⟨u, z⟩
    · exact h3 q hq (z.trans e)
    · rw [e, h1] at z; cases z
    · rw [e, h2] at z; cases z
def compD (g : DG) (tt : DT) (te : DE) (ds : DS) : List D → List D → MS → (List D → MS → Prop) → Prop
  | [], acc, ms, P => P acc ms
  | x :: r, acc, ms, P => g x ds fun ds2 => tt ds2 ms fun b m3 => if b = true then te ds2 m3 fun y m4 => acc.length < sizeLine ∧ compD g tt te ds r (acc ++ [y]) m4 P else compD g tt te ds r acc m3 P
def dLc (di : DI) (g : DG) (tt : DT) (te : DE) (vs : List Nat) : DE := fun ds ms P => di ds ms fun xs m => compD g tt te (wipeD ds vs) xs [] m fun ys m' => P (.lst ys) m'
/-- without a test -/
def dYes : DT := fun _ ms P => P true ms
section
variable {K : PySem.W.Frag} {di : DI} {dg : DG} {tt : DT} {te : DE} {g : TG} {vs : List Nat}
theorem lift_lc (hg : TgD K g dg vs) (hm : MonG g) : ∀ σ H Q, lift K (dLc di dg tt te vs) σ H Q → tLc (liftI K di) g (liftT K tt) (lift K te) vs σ H Q := fun σ H Q ⟨F, ds, ms, P, R, S, h, q⟩ => by
  refine ⟨F, ds, ms, _, R, S, h, fun xs m F0 H0 J p0 R0 s0 wk L hL => ?_⟩
  have nL : F0 L = none := R0.sub.none hL
  have nM : ∀ p ∈ m, p.1 ≠ L := fun p hp => by
    obtain ⟨_, ws, h2, _⟩ := R0.mu p hp
    exact ne_of_none h2 hL
  refine lc_it wk (fun i H1 => ∃ F1 m1 acc av, Rel K F1 H1 m1 ∧ Stp F0 H0 m F1 H1 m1 ∧ H1 L = some (.lst av) ∧ F1 L = none ∧ (∀ p ∈ m1, p.1 ≠ L) ∧ DRs K F1 av acc ∧ compD dg tt te (wipeD ds vs) (xs.drop i) acc m1 fun ys m' => P (.lst ys) m')
    ⟨F0, m, [], [], R0.lay hL, ⟨Sub.refl F0, fun a u h1 _ _ => by rw [upd_ne (ne_of_none h1 hL)]; exact h1, fun _ _ h => .inl h, fun q hq => .inl ⟨q, hq, rfl⟩⟩, upd_same, nL, nM, .nil, p0⟩
    (fun i H1 _ ⟨F1, m1, acc, av, R1, s1, _⟩ => s1.sub.trans R1.sub) ?_ ?_
  · rintro i x H1 H2 hi ⟨F1, m1, acc, av, R1, s1, hD, hF, hM, ra, h1⟩ ⟨d, hd, hy⟩
    rw [drop_get hd] at h1
    have fin : ∀ {F2 : Hp} {x : V}, Rel K F2 H2 m1 → Stp F0 H0 m F2 H2 m1 → Sub F1 F2 → DR K F2 x d → H2 L = some (.lst av) → F2 L = none →
        g x (L2.wipe σ vs) H2 fun σ2 H3 => L2.wipe σ2 vs = L2.wipe σ vs ∧ liftT K tt σ2 H3 fun b H4 => if b = true then lift K te σ2 H4 fun y H5 => ∃ acc, H5 L = some (.lst acc) ∧ acc.length < sizeLine ∧
          (∃ F1 m1 acc' av, Rel K F1 (upd H5 L (.lst (acc ++ [y]))) m1 ∧ Stp F0 H0 m F1 (upd H5 L (.lst (acc ++ [y]))) m1 ∧ (upd H5 L (.lst (acc ++ [y]))) L = some (.lst av) ∧ F1 L = none ∧ (∀ p ∈ m1, p.1 ≠ L) ∧ DRs K F1 av acc' ∧ compD dg tt te (wipeD ds vs) (xs.drop (i + 1)) acc' m1 fun ys m' => P (.lst ys) m')
          else ∃ F1 m1 acc av, Rel K F1 H4 m1 ∧ Stp F0 H0 m F1 H4 m1 ∧ H4 L = some (.lst av) ∧ F1 L = none ∧ (∀ p ∈ m1, p.1 ≠ L) ∧ DRs K F1 av acc ∧ compD dg tt te (wipeD ds vs) (xs.drop (i + 1)) acc m1 fun ys m' => P (.lst ys) m' := by
      intro F2 x R2 s2 s12 rx hD2 hF2
      have hw := hg.wip x (L2.wipe σ vs) H2 _ (hg.snd x (L2.wipe σ vs) F2 H2 (fun σ2 H3 => H3 = H2 ∧ ∃ ds2, Sl K F2 σ2 ds2 ∧ tt ds2 m1 fun b m3 => if b = true then te ds2 m3 fun y m4 => acc.length < sizeLine ∧ compD dg tt te (wipeD ds vs) (xs.drop (i + 1)) (acc ++ [y]) m4 fun ys m' => P (.lst ys) m' else compD dg tt te (wipeD ds vs) (xs.drop (i + 1)) acc m3 fun ys m' => P (.lst ys) m') d (wipeD ds vs) _ R2.sub ((S.wipe vs).mono (s0.sub.trans s2.sub)) rx h1 fun ds2 σ2 h2 S2 => ⟨rfl, ds2, S2, h2⟩)
      refine hm _ _ _ _ _ ?_ hw
      rintro σ2 H3 ⟨e1, rfl, ds2, S2, h2⟩
      refine ⟨e1.trans (wipe_wipe fun u hu => hu), F2, ds2, m1, _, R2, S2, h2, fun b m4 F4 H4 p4 R4 s4 => ?_⟩
      obtain ⟨hD4, hF4, hM4⟩ := s4.kp hD2 hF2 hM
      cases b with
      | false =>
        rw [if_neg Bool.false_ne_true] at p4 ⊢
        exact ⟨F4, m4, acc, av, R4, s2.trans s4, hD4, hF4, hM4, (ra.mono s12).mono s4.sub, p4⟩
      | true =>
        rw [if_pos rfl] at p4 ⊢
        refine ⟨F4, ds2, m4, _, R4, S2.mono s4.sub, p4, fun y m5 v5 F5 H5 p5 R5 s5 r5 => ?_⟩
        obtain ⟨hD5, hF5, hM5⟩ := s5.kp hD4 hF4 hM4
        have ra5 := ((ra.mono s12).mono s4.sub).mono s5.sub
        have s05 := (s2.trans s4).trans s5
        refine ⟨av, hD5, by rw [ra.length]; exact p5.1, F5, m5, acc ++ [y], av ++ [v5], ?_, ?_, upd_same, hF5, hM5, ra5.append (.cons r5 .nil), p5.2⟩
        · refine ⟨fun b u e => ?_, fun p hp => ?_, R5.nd, R5.one⟩
          · rw [upd_ne (fun z => by rw [z, hF5] at e; cases e)]; exact R5.sub b u e
          · obtain ⟨z1, ws, z2, z3⟩ := R5.mu p hp
            exact ⟨z1, ws, by rw [upd_ne (hM5 p hp)]; exact z2, z3⟩
        · exact ⟨s05.sub, fun a u z1 z2 z3 => by rw [upd_ne (ne_of_none z1 hL)]; exact s05.keep a u z1 z2 z3, s05.newF, s05.newM⟩
    rcases hy with ⟨rfl, rx⟩ | ⟨T, a, b, da, db, rfl, hT, rfl, rfl, ra', rb'⟩
    · exact fin R1 s1 (Sub.refl F1) (rx.mono s1.sub) hD hF
    · have hne : L ≠ T := ne_of_none hD hT
      exact fin (R1.new hT) (s1.trans (Stp.new R1 hT)) (Sub.new (R1.sub.none hT)) (R1.newTup hT (.cons (ra'.mono s1.sub) (.cons (rb'.mono s1.sub) .nil))) (by rw [upd_ne hne]; exact hD) (by rw [upd_ne hne]; exact hF)
  · rintro H1 ⟨F1, m1, acc, av, R1, s1, hD, hF, hM, ra, h1⟩
    rw [List.drop_length] at h1
    have sF : Sub F1 (upd F1 L (.lst av)) := Sub.new hF
    refine q _ m1 _ (upd F1 L (.lst av)) H1 h1 ?_ (s0.trans ?_) (.lst upd_same (ra.mono sF))
    · refine ⟨fun b u e => ?_, fun p hp => ?_, R1.nd, R1.one.mono sF⟩
      · by_cases hb : b = L
        · subst hb; rw [upd_same] at e; rw [hD]; exact e
        · rw [upd_ne hb] at e; exact R1.sub b u e
      · obtain ⟨z1, ws, z2, z3⟩ := R1.mu p hp
        exact ⟨by rw [upd_ne (hM p hp)]; exact z1, ws, z2, z3.mono sF⟩
    · refine ⟨s1.sub.trans sF, s1.keep, fun a u e => ?_, s1.newM⟩
      by_cases hb : a = L
      · subst hb; exact .inr (.inl hL)
      · rw [upd_ne hb] at e; exact s1.newF a u e
end
end DL

namespace DL
open PySem PySem.Spec PyProof.Rows L2

/-! ### comprehensions as expressions, and stored -/
abbrev PDTs (X : Cx) (es : List Expr) (t : DT) : Prop := PTs X es (liftT X.K t)
theorem pdts_nil {X : Cx} : PDTs X [] dYes := ⟨fun pins s σ H Q I ⟨F, ds, ms, P, R, S, h1, h2⟩ => pts_nil.run pins s σ H Q I (h2 true ms F H h1 R Stp.refl)⟩
theorem pdts_one {X : Cx} {c : Expr} {t : DT} (h : PDT X c t) : PDTs X [c] t := pts_one h
section
variable {X : Cx} {elt tg iter : Expr} {ifs : List Expr} {scope : Scope} {own : List (Str × Nat)} {pos spos py : Pos} {di : DI} {g : TG} {dg : DG} {tt : DT} {te : DE} {i : Nat} {y : Str}
theorem pd_lc (hc : X.calm = true) (hN : X.N.Nodup) (hi : PDI X tg iter di) (ok : BlkOk X.N X.env.scope scope own)
    (hg : ∀ (s : Shared) (H : Hp) (C : Addr) (cl : List (Str × Addr)) (fp : List Addr), PG (X.blk s H scope (compEnvC scope cl C X.env) fp) tg g)
    (hd : TgD X.K g dg (own.map (·.2))) (hm : MonG g)
    (ht : ∀ (s : Shared) (H : Hp) (C : Addr) (cl : List (Str × Addr)) (fp : List Addr), PDTs (X.blk s H scope (compEnvC scope cl C X.env) fp) ifs tt)
    (he : ∀ (s : Shared) (H : Hp) (C : Addr) (cl : List (Str × Addr)) (fp : List Addr), PD (X.blk s H scope (compEnvC scope cl C X.env) fp) elt te)
    (hs : ∀ x, foldedSetIterable iter X.env x = pure x := by intro _; rfl) :
    PD X (.ListComp elt [⟨tg, iter, ifs, 0⟩] scope pos) (dLc di dg tt te (own.map (·.2))) :=
  peImp (pe_lc hc hN hi ok hg ht he hs) (lift_lc hd hm)
theorem pds_setLc (hc : X.calm = true) (hN : X.N.Nodup) (hy : X.N[i]? = some y) (hyl : X.env.scope.names.lookup y = some .local)
    (hsw : swapsWith (.ListComp elt [⟨tg, iter, ifs, 0⟩] scope pos) (some (.Name y py)) spos.line X.env = pure true) (hi : PDI X tg iter di) (ok : BlkOk X.N X.env.scope scope own)
    (hg : ∀ (s : Shared) (H : Hp) (C : Addr) (cl : List (Str × Addr)) (fp : List Addr), PG (X.blk s H scope (compEnvC scope cl C X.env) fp) tg g)
    (hd : TgD X.K g dg (own.map (·.2))) (hm : MonG g)
    (ht : ∀ (s : Shared) (H : Hp) (C : Addr) (cl : List (Str × Addr)) (fp : List Addr), PDTs (X.blk s H scope (compEnvC scope cl C X.env) fp) ifs tt)
    (he : ∀ (s : Shared) (H : Hp) (C : Addr) (cl : List (Str × Addr)) (fp : List Addr), PD (X.blk s H scope (compEnvC scope cl C X.env) fp) elt te)
    (hs : ∀ x, foldedSetIterable iter X.env x = pure x := by intro _; rfl) :
    PDS X (.Assign [.Name y py] (.ListComp elt [⟨tg, iter, ifs, 0⟩] scope pos) spos) (dAsg (dLc di dg tt te (own.map (·.2))) (sName i)) :=
  psImp (ps_setLc hc hN hy hyl hsw hi ok hg ht he hs) fun D σ H h => by
    obtain ⟨F, ds, ms, P, R, S, z1, z2⟩ := h
    exact lift_lc hd hm σ H _ ⟨F, ds, ms, _, R, S, z1, fun d m v F1 H1 p1 R1 s1 r1 => z2.1 _ m _ F1 H1 p1 R1 s1 ((S.mono s1.sub).set r1 i)⟩
end

/-! ### operators -/
def fAdd : OF := fun x y ms P => match x, y with
  | .int i, .int j => P (.int (i + j)) ms
  | .str i, .str j => i.length + j.length ≤ sizeLine ∧ P (.str (i ++ j)) ms
  | .lst a, .lst b => a.length + b.length ≤ sizeLine ∧ P (.lst (a ++ b)) ms
  | .opq (.ref p), .lst b => match look ms p with
    | some a => a.length + b.length ≤ sizeLine ∧ P (.lst (a ++ b)) ms
    | none => False
  | .tup a, .tup b => a.length + b.length ≤ sizeLine ∧ P (.tup (a ++ b)) ms
  | _, _ => False
def rAddD (K : PySem.W.Frag) : R2 := fun x y H Q => (∃ i j, x = .int i ∧ y = .int j ∧ Q (.int (i + j)) H) ∨ (∃ i j, x = .str i ∧ y = .str j ∧ i.length + j.length ≤ sizeLine ∧ Q (.str (i ++ j)) H) ∨ rCat x y H Q ∨ rCatA K x y H Q
theorem op_addD {X : Cx} : OpR X (binaryOp .Add) (rAddD X.K) := op_add.or (op_add_str.or (op_cat.or op_catA))
theorem DRs.nil_iff {K : PySem.W.Frag} {F : Hp} {vs : List V} {xs : List D} (r : DRs K F vs xs) : vs = [] ↔ xs = [] := by cases r <;> simp
theorem opd_add {K : PySem.W.Frag} : OpD K (rAddD K) fAdd := by
  intro F H ms x y dx dy P Q R rx ry h q
  have cat : ∀ {a b : Addr} {vs ws : List V} {xs ys : List D}, H a = some (.lst vs) → H b = some (.lst ws) → DRs K F vs xs → DRs K F ws ys → xs.length + ys.length ≤ sizeLine → P (.lst (xs ++ ys)) ms → rCat (.ref a) (.ref b) H Q := by
    intro a b vs ws xs ys h1 h2 r1 r2 hz hp
    refine ⟨a, b, vs, ws, rfl, rfl, h1, h2, by rw [r1.length, r2.length]; exact hz, fun p hp2 => ?_⟩
    exact q _ ms _ _ _ hp (R.new hp2) (Stp.new R hp2) (R.newLst hp2 (r1.append r2))
  cases rx with
  | int i => cases ry with
    | int j => exact .inl ⟨i, j, rfl, rfl, q _ ms _ F H h R Stp.refl (.int _)⟩
    | _ => exact h.elim
  | str i => cases ry with
    | str j => exact .inr (.inl ⟨i, j, rfl, rfl, h.1, q _ ms _ F H h.2 R Stp.refl (.str _)⟩)
    | _ => exact h.elim
  | lst h1 r1 => cases ry with
    | lst h2 r2 => exact .inr (.inr (.inl (cat (R.sub _ _ h1) (R.sub _ _ h2) r1 r2 h.1 h.2)))
    | _ => exact h.elim
  | tup h1 r1 => cases ry with
    | tup h2 r2 =>
      obtain ⟨z3, z4⟩ := h
      refine .inr (.inr (.inr ⟨_, _, _, _, rfl, rfl, R.sub.sqT h1, R.sub.sqT h2, by rw [r1.length, r2.length]; exact z3, fun e => ?_, fun _ e => ?_, fun _ _ p hp2 => ?_⟩))
      · cases r1.nil_iff.mp e
        exact q _ ms _ F H z4 R Stp.refl (.tup h2 r2)
      · cases r2.nil_iff.mp e
        rw [List.append_nil] at z4
        exact q _ ms _ F H z4 R Stp.refl (.tup h1 r1)
      · exact q _ ms _ _ _ z4 (R.new hp2) (Stp.new R hp2) (R.newTup hp2 (r1.append r2))
    | _ => exact h.elim
  | opq _ => cases x with
    | ref p => cases ry with
      | lst h2 r2 =>
        unfold fAdd at h
        cases e : look ms p with
        | none => simp only [e] at h
        | some a =>
          simp only [e] at h
          obtain ⟨_, vs, h1, r1⟩ := R.look e
          exact .inr (.inr (.inl (cat h1 (R.sub _ _ h2) r1 r2 h.1 h.2)))
      | _ => exact h.elim
    | _ => exact h.elim
  | _ => exact h.elim
def fSub : OF := fun x y ms P => fI (fun _ _ => True) (fun i j => .int (i - j)) x y ms P
theorem opd_sub {K : PySem.W.Frag} : OpD K (rI0 fun i j => .int (i - j)) fSub := opd_I0 fun _ _ _ => .int _
/-- * of ints, together below a million bits, or one of them below 2 ^ 64 -/
def CMulD (i j : Int) : Prop := CMulW i j ∨ CMul i j
theorem op_mulD {X : Cx} : OpR X (binaryOp .Mult) (rI CMulD fun i j => .int (i * j)) := opI fun _ _ _ _ _ _ _ hc q => mul_int q (hc.elim (·.ok) (·.ok))
def fMul : OF := fun x y ms P => match x, y with
  | .int i, .int j => CMulD i j ∧ P (.int (i * j)) ms
  | .lst a, .int k => (-(2 ^ 63) ≤ k ∧ k < 2 ^ 63 ∧ a.length * k.toNat ≤ sizeLine) ∧ P (.lst (List.replicate k.toNat a).flatten) ms
  | _, _ => False
def rMulD : R2 := fun x y H Q => rI CMulD (fun i j => .int (i * j)) x y H Q ∨ rRep x y H Q
theorem op_mulA {X : Cx} : OpR X (binaryOp .Mult) rMulD := op_mulD.or op_rep
theorem DRs.rep {K : PySem.W.Frag} {F : Hp} {vs : List V} {xs : List D} (r : DRs K F vs xs) : ∀ n : Nat, DRs K F (List.replicate n vs).flatten (List.replicate n xs).flatten
  | 0 => .nil
  | n + 1 => by rw [List.replicate_succ, List.replicate_succ, List.flatten_cons, List.flatten_cons]; exact r.append (DRs.rep r n)
theorem opd_mul {K : PySem.W.Frag} : OpD K rMulD fMul := by
  intro F H ms x y dx dy P Q R rx ry h q
  cases rx with
  | int i => cases ry with
    | int j => exact .inl ⟨i, j, rfl, rfl, h.1, q _ ms _ F H h.2 R Stp.refl (.int _)⟩
    | _ => exact h.elim
  | lst h1 r1 => cases ry with
    | int k =>
      obtain ⟨⟨z1, z2, z3⟩, z4⟩ := h
      refine .inr ⟨_, k, _, rfl, rfl, R.sub _ _ h1, z1, z2, by rw [r1.length]; exact z3, fun p hp => ?_⟩
      exact q _ ms _ _ _ z4 (R.new hp) (Stp.new R hp) (R.newLst hp (r1.rep _))
    | _ => exact h.elim
  | _ => exact h.elim
/-- // by a number that is not nought, below 2 ^ 9000 -/
def CDivA (_ j : Int) : Prop := j ≠ 0 ∧ j.natAbs.log2 < 9000
theorem op_fdivA {X : Cx} : OpR X (binaryOp .FloorDiv) (rI CDivA fun i j => .int (i.fdiv j)) := opI fun _ _ _ _ _ _ _ hc q => floordiv_int hc.1 q (.inl (PyProof.noPylong_of_log2 hc.2))
def fDiv : OF := fun x y ms P => fI CDivA (fun i j => .int (i.fdiv j)) x y ms P
theorem opd_div {K : PySem.W.Frag} : OpD K (rI CDivA fun i j => .int (i.fdiv j)) fDiv := opd_I (fun _ _ h => h) fun _ _ _ => .int _
def fMod : OF := fun x y ms P => fI (fun _ j => j ≠ 0) (fun i j => .int (i.fmod j)) x y ms P
theorem opd_mod {K : PySem.W.Frag} : OpD K (rI (fun _ j => j ≠ 0) fun i j => .int (i.fmod j)) fMod := opd_I (fun _ _ h => h) fun _ _ _ => .int _
def fPow : OF := fun x y ms P => fI CPow (fun i j => .int (i ^ j.toNat)) x y ms P
theorem opd_pow {K : PySem.W.Frag} : OpD K (rI CPow fun i j => .int (i ^ j.toNat)) fPow := opd_I (fun _ _ h => h) fun _ _ _ => .int _
def fLt : OF := fun x y ms P => fI (fun _ _ => True) (fun i j => .bl (decide (i < j))) x y ms P
def fLe : OF := fun x y ms P => fI (fun _ _ => True) (fun i j => .bl (decide (i ≤ j))) x y ms P
def fGt : OF := fun x y ms P => fI (fun _ _ => True) (fun i j => .bl (decide (j < i))) x y ms P
def fGe : OF := fun x y ms P => fI (fun _ _ => True) (fun i j => .bl (decide (j ≤ i))) x y ms P
theorem opd_lt {K : PySem.W.Frag} : OpD K (rI0 fun i j => .bl (decide (i < j))) fLt := opd_I0 fun _ _ _ => .bl _
theorem opd_le {K : PySem.W.Frag} : OpD K (rI0 fun i j => .bl (decide (i ≤ j))) fLe := opd_I0 fun _ _ _ => .bl _
theorem opd_gt {K : PySem.W.Frag} : OpD K (rI0 fun i j => .bl (decide (j < i))) fGt := opd_I0 fun _ _ _ => .bl _
theorem opd_ge {K : PySem.W.Frag} : OpD K (rI0 fun i j => .bl (decide (j ≤ i))) fGe := opd_I0 fun _ _ _ => .bl _

/-! ### data as the model's own -/
mutual
def toPy : D → Option PyData
  | .non => some .none
  | .bl b => some (.bool b)
  | .int i => some (.int i)
  | .str x => some (.str x)
  | .lst xs => (toPys xs).map .list
  | .tup xs => (toPys xs).map .tuple
  | .fro xs => (toPys xs).map .list
  | .edic => some (.dict [])
  | .dct _ => none
  | .opq _ => none
  | .exc _ _ _ => none
def toPys : List D → Option (List PyData)
  | [] => some []
  | x :: r => match toPy x, toPys r with
    | some a, some b => some (a :: b)
    | _, _ => none
end
section
variable {X : Cx} {pins : List (Addr × Obj)} {σ : L2.St} {H F : Hp} {s : Shared}
/-- where lists and dicts of ours lie -/
def Our (K : PySem.W.Frag) (F : Hp) (b : Addr) : Prop := (∃ xs, SqL K F b xs) ∨ F b = some (.dK [])
theorem Our.not1 {K : PySem.W.Frag} {F : Hp} {b : Addr} (h : Our K F b) (o : OneR K F) : b ≠ sysModules := by
  rintro rfl
  obtain ⟨o1, o, φ, o2⟩ := o
  rcases h with ⟨xs, (h | ⟨ob, h⟩) | ⟨ob, its, n, h, _⟩⟩ | h
  · rw [o2] at h; cases h
  · rw [o2] at h; cases h
  · rw [o1] at h; cases h
  · rw [o2] at h; cases h
mutual
theorem DR.readsA (I : Inv X pins σ H s) (sb : Sub F H) : ∀ (d : D) (p : PyData) (v : V) (u : Value), DR X.K F v d → toPy d = some p → RelV v u → ∃ as, Reads s.heap u p as ∧ ∀ b ∈ as, Our X.K F b
  | .non, _, _, _, .non, h, r => by cases h; cases r; exact ⟨_, Reads.none, fun b hb => by cases hb⟩
  | .bl b, _, _, _, .bl _, h, r => by cases h; cases r; exact ⟨_, Reads.bool b, fun b hb => by cases hb⟩
  | .int i, _, _, _, .int _, h, r => by cases h; obtain ⟨t, rfl⟩ := r; exact ⟨_, Reads.int i t, fun b hb => by cases hb⟩
  | .str x, _, _, _, .str _, h, r => by cases h; obtain ⟨t, rfl⟩ := r; exact ⟨_, Reads.str x t, fun b hb => by cases hb⟩
  | .lst xs, p, _, _, .lst ha hs, h, r => by
    unfold toPy at h
    obtain ⟨ps, e, rfl⟩ := Option.map_eq_some_iff.mp h
    cases r
    obtain ⟨its, rv, ⟨o, n, ho, hc, _, hd⟩, _⟩ := I.list (SqL.of (sb _ _ ha))
    obtain ⟨as, hr, ou⟩ := DRs.readsA I sb xs ps _ its hs e rv
    refine ⟨_, Reads.list ho hc hd hr, fun b hb => ?_⟩
    rcases List.mem_cons.mp hb with rfl | hb
    · exact .inl ⟨_, SqL.of ha⟩
    · exact ou b hb
  | .fro xs, p, _, _, .fro ha hs, h, r => by
    unfold toPy at h
    obtain ⟨ps, e, rfl⟩ := Option.map_eq_some_iff.mp h
    cases r
    obtain ⟨its, rv, ⟨o, n, ho, hc, _, hd⟩, _⟩ := I.list (sb.sqL ha)
    obtain ⟨as, hr, ou⟩ := DRs.readsA I sb xs ps _ its hs e rv
    refine ⟨_, Reads.list ho hc hd hr, fun b hb => ?_⟩
    rcases List.mem_cons.mp hb with rfl | hb
    · exact .inl ⟨_, ha⟩
    · exact ou b hb
  | .tup xs, p, _, _, .tup ha hs, h, r => by
    unfold toPy at h
    obtain ⟨ps, e, rfl⟩ := Option.map_eq_some_iff.mp h
    cases r
    obtain ⟨its, rv, ⟨o, ho, hc, n, hd⟩, _⟩ := I.tuple (sb.sqT ha)
    obtain ⟨as, hr, ou⟩ := DRs.readsA I sb xs ps _ its hs e rv
    exact ⟨_, Reads.tuple ho hc hd hr, ou⟩
  | .edic, p, _, _, .edic ha, h, r => by
    cases h
    cases r
    obtain ⟨_, _, vs, kv, o, es, ep, h1, h2, h3, h4, h5, _⟩ := (show ObjOk X.prog X.w H s.heap _ (.dK []) from I.hok _ _ (sb _ _ ha))
    cases kv
    have e0 : es.toList = [] := by
      generalize es.toList = l at h5
      cases h5
      rfl
    refine ⟨_, Reads.dict (kvs := []) h1 h2.1 h3 (by rw [e0]; exact .nil) (by rw [e0]; exact .nil), fun b hb => ?_⟩
    simp only [List.cons_append, List.append_nil, List.mem_cons, List.not_mem_nil, or_false] at hb
    subst hb
    exact .inr ha
  | .opq _, _, _, _, _, h, _ => by cases h
  | .dct _, _, _, _, _, h, _ => by cases h
  | .exc _ _ _, _, _, _, _, h, _ => by cases h
theorem DRs.readsA (I : Inv X pins σ H s) (sb : Sub F H) : ∀ (ds : List D) (ps : List PyData) (vs : List V) (us : List Value), DRs X.K F vs ds → toPys ds = some ps → Vals vs us → ∃ as, ReadsAll s.heap us ps as ∧ ∀ b ∈ as, Our X.K F b
  | [], _, _, _, .nil, h, r => by cases h; cases r; exact ⟨_, ReadsAll.nil, fun b hb => by cases hb⟩
  | d :: ds, ps, _, _, .cons h1 h2, h, r => by
    unfold toPys at h
    cases e1 : toPy d with
    | none => simp only [e1] at h; cases h
    | some a =>
      cases e2 : toPys ds with
      | none => simp only [e1, e2] at h; cases h
      | some b =>
        simp only [e1, e2] at h
        cases h
        cases r with
        | cons r1 r2 =>
          obtain ⟨as, q1, o1⟩ := DR.readsA I sb d a _ _ h1 e1 r1
          obtain ⟨bs, q2, o2⟩ := DRs.readsA I sb ds b _ _ h2 e2 r2
          refine ⟨_, ReadsAll.cons q1 q2, fun b hb => ?_⟩
          rcases List.mem_append.mp hb with hb | hb
          · exact o1 b hb
          · exact o2 b hb
end
theorem DR.reads (I : Inv X pins σ H s) (sb : Sub F H) (d : D) (p : PyData) (v : V) (u : Value) (r : DR X.K F v d) (e : toPy d = some p) (ru : RelV v u) : ∃ as, Reads s.heap u p as := (DR.readsA I sb d p v u r e ru).imp fun _ h => h.1
theorem DRs.reads (I : Inv X pins σ H s) (sb : Sub F H) (ds : List D) (ps : List PyData) (vs : List V) (us : List Value) (r : DRs X.K F vs ds) (e : toPys ds = some ps) (ru : Vals vs us) : ∃ as, ReadsAll s.heap us ps as := (DRs.readsA I sb ds ps vs us r e ru).imp fun _ h => h.1
end
end DL

namespace DL
open PySem PySem.Spec PyProof.Rows L2

/-! ### == and != of data -/
def ShD (d : D) : Prop := ∃ p, toPy d = some p ∧ SeqAt.shaped p = true
def eqD (x y : D) : Bool := match toPy x, toPy y with
  | some p, some q => PyData.eqv p q
  | _, _ => false
def fEq : OF := fun x y ms P => match x, y with
  | .int i, .int j => P (.bl (i == j)) ms
  | .str i, .str j => P (.bl (i == j)) ms
  | .lst a, .lst [] => P (.bl a.isEmpty) ms
  | _, _ => ShD x ∧ ShD y ∧ P (.bl (eqD x y)) ms
def fNe : OF := fun x y ms P => match x, y with
  | .int i, .int j => P (.bl (!(i == j))) ms
  | .str i, .str j => P (.bl (!(i == j))) ms
  | .lst a, .lst [] => P (.bl (!a.isEmpty)) ms
  | _, _ => ShD x ∧ ShD y ∧ P (.bl (!eqD x y)) ms
def rEqF (K : PySem.W.Frag) (neg : Bool) : R2 := fun x y H Q => ∃ F dx dy, Sub F H ∧ DR K F x dx ∧ DR K F y dy ∧ ShD dx ∧ ShD dy ∧ Q (.bl (if neg then !eqD dx dy else eqD dx dy)) H
theorem op_eqF' {X : Cx} (hu : X.A.units + 64 < cLine) : OpR X (compareOp .Eq) (rEqF X.K false) := by
  intro pins s σ H x y v u Q I rx ry h
  obtain ⟨F, dx, dy, sb, hx, hy, ⟨p, e1, z1⟩, ⟨q, e2, z2⟩, h⟩ := h
  obtain ⟨as, r1⟩ := DR.reads I sb dx p x v hx e1 rx
  obtain ⟨bs, r2⟩ := DR.reads I sb dy q y u hy e2 ry
  have e : eqD dx dy = PyData.eqv p q := by unfold eqD; rw [e1, e2]
  exact SeqAt.compareEq_shaped r1 r2 z1 z2 hu ⟨.bl _, H, I, rfl, by rw [← e]; exact h⟩
theorem op_neF' {X : Cx} (hu : X.A.units + 64 < cLine) : OpR X (compareOp .NotEq) (rEqF X.K true) := by
  intro pins s σ H x y v u Q I rx ry h
  obtain ⟨F, dx, dy, sb, hx, hy, ⟨p, e1, z1⟩, ⟨q, e2, z2⟩, h⟩ := h
  obtain ⟨as, r1⟩ := DR.reads I sb dx p x v hx e1 rx
  obtain ⟨bs, r2⟩ := DR.reads I sb dy q y u hy e2 ry
  have e : eqD dx dy = PyData.eqv p q := by unfold eqD; rw [e1, e2]
  exact SeqAt.compareNe_shaped r1 r2 z1 z2 hu ⟨.bl _, H, I, rfl, by rw [← e]; exact h⟩
/-- a list beside an empty one: by how long it is -/
def rEqE (K : PySem.W.Frag) (neg : Bool) : R2 := fun x y H Q => ∃ F xs, Sub F H ∧ DR K F x (.lst xs) ∧ DR K F y (.lst []) ∧ Q (.bl (Bool.xor neg xs.isEmpty)) H
theorem op_eqE {X : Cx} (hu : X.A.units + 64 < cLine) : OpR X (compareOp .Eq) (rEqE X.K false) := by
  intro pins s σ H x y v u Q I rx ry h
  obtain ⟨F, xs, sb, hx, hy, h⟩ := h
  cases xs with
  | nil =>
    obtain ⟨as, r1⟩ := DR.reads I sb (.lst []) (.list []) x v hx rfl rx
    obtain ⟨bs, r2⟩ := DR.reads I sb (.lst []) (.list []) y u hy rfl ry
    exact SeqAt.compareEq_shaped r1 r2 rfl rfl hu ⟨.bl true, H, I, rfl, h⟩
  | cons d r =>
    cases hx with
    | lst ha hs => cases hy with
      | lst hb hs2 =>
        cases rx; cases ry
        obtain ⟨i1, v1, ⟨o1, n1, p1, c1, _, d1⟩, _⟩ := I.list (SqL.of (sb _ _ ha))
        obtain ⟨i2, v2, ⟨o2, n2, p2, c2, _, d2⟩, _⟩ := I.list (SqL.of (sb _ _ hb))
        have l1 : i1.length = r.length + 1 := by rw [← v1.length, hs.length]; rfl
        have l2 : i2.length = 0 := by rw [← v2.length, hs2.length]; rfl
        exact PySem.SeqAt.eq_list_lengthsAt ⟨o1, p1, c1, n1, d1⟩ ⟨o2, p2, c2, n2, d2⟩ (by rw [List.size_toArray, List.size_toArray, l1, l2]; rfl) (by omega) ⟨.bl false, H, I, rfl, h⟩
theorem op_neE {X : Cx} (hu : X.A.units + 64 < cLine) : OpR X (compareOp .NotEq) (rEqE X.K true) := by
  intro pins s σ H x y v u Q I rx ry h
  obtain ⟨F, xs, sb, hx, hy, h⟩ := h
  cases xs with
  | nil =>
    obtain ⟨as, r1⟩ := DR.reads I sb (.lst []) (.list []) x v hx rfl rx
    obtain ⟨bs, r2⟩ := DR.reads I sb (.lst []) (.list []) y u hy rfl ry
    exact SeqAt.compareNe_shaped r1 r2 rfl rfl hu ⟨.bl false, H, I, rfl, h⟩
  | cons d r =>
    cases hx with
    | lst ha hs => cases hy with
      | lst hb hs2 =>
        cases rx; cases ry
        obtain ⟨i1, v1, ⟨o1, n1, p1, c1, _, d1⟩, _⟩ := I.list (SqL.of (sb _ _ ha))
        obtain ⟨i2, v2, ⟨o2, n2, p2, c2, _, d2⟩, _⟩ := I.list (SqL.of (sb _ _ hb))
        have l1 : i1.length = r.length + 1 := by rw [← v1.length, hs.length]; rfl
        have l2 : i2.length = 0 := by rw [← v2.length, hs2.length]; rfl
        exact PySem.SeqAt.RcNeAt.lists_lengths ⟨o1, p1, c1, n1, d1⟩ ⟨o2, p2, c2, n2, d2⟩ (by rw [List.size_toArray, List.size_toArray, l1, l2]; rfl) (by omega) _ _ _ _ ⟨.bl true, H, I, rfl, h⟩
def rEqA (K : PySem.W.Frag) : R2 := fun x y H Q => rEqF K false x y H Q ∨ (rEqE K false x y H Q ∨ rEq x y H Q)
def rNeA (K : PySem.W.Frag) : R2 := fun x y H Q => rEqF K true x y H Q ∨ (rEqE K true x y H Q ∨ rNe x y H Q)
theorem op_eqF {X : Cx} (hu : X.A.units + 64 < cLine) : OpR X (compareOp .Eq) (rEqA X.K) := (op_eqF' hu).or ((op_eqE hu).or op_eq)
theorem op_neF {X : Cx} (hu : X.A.units + 64 < cLine) : OpR X (compareOp .NotEq) (rNeA X.K) := (op_neF' hu).or ((op_neE hu).or op_ne)
theorem opd_eq {K : PySem.W.Frag} : OpD K (rEqA K) fEq := fun F H ms x y dx dy P Q R rx ry h q => by
  have gen : ShD dx ∧ ShD dy ∧ P (.bl (eqD dx dy)) ms → rEqA K x y H Q := fun h => .inl ⟨F, dx, dy, R.sub, rx, ry, h.1, h.2.1, q _ ms _ F H h.2.2 R Stp.refl (.bl _)⟩
  cases rx with
  | int i => cases ry with
    | int j => exact .inr (.inr ⟨rfl, by rw [dec_int]; exact q _ ms _ F H h R Stp.refl (.bl _)⟩)
    | _ => exact gen h
  | str i => cases ry with
    | str j => exact .inr (.inr ⟨rfl, by rw [dec_str]; exact q _ ms _ F H h R Stp.refl (.bl _)⟩)
    | _ => exact gen h
  | lst ha hs => cases ry with
    | lst hb hs2 =>
      rename_i ys
      cases ys with
      | nil => exact .inr (.inl ⟨F, _, R.sub, .lst ha hs, .lst hb hs2, by rw [Bool.false_xor]; exact q _ ms _ F H h R Stp.refl (.bl _)⟩)
      | cons _ _ => exact gen h
    | _ => exact gen h
  | _ => exact gen h
theorem opd_ne {K : PySem.W.Frag} : OpD K (rNeA K) fNe := fun F H ms x y dx dy P Q R rx ry h q => by
  have gen : ShD dx ∧ ShD dy ∧ P (.bl (!eqD dx dy)) ms → rNeA K x y H Q := fun h => .inl ⟨F, dx, dy, R.sub, rx, ry, h.1, h.2.1, q _ ms _ F H h.2.2 R Stp.refl (.bl _)⟩
  cases rx with
  | int i => cases ry with
    | int j => exact .inr (.inr ⟨rfl, by rw [dec_int]; exact q _ ms _ F H h R Stp.refl (.bl _)⟩)
    | _ => exact gen h
  | str i => cases ry with
    | str j => exact .inr (.inr ⟨rfl, by rw [dec_str]; exact q _ ms _ F H h R Stp.refl (.bl _)⟩)
    | _ => exact gen h
  | lst ha hs => cases ry with
    | lst hb hs2 =>
      rename_i ys
      cases ys with
      | nil => exact .inr (.inl ⟨F, _, R.sub, .lst ha hs, .lst hb hs2, by rw [Bool.true_xor]; exact q _ ms _ F H h R Stp.refl (.bl _)⟩)
      | cons _ _ => exact gen h
    | _ => exact gen h
  | _ => exact gen h

/-! ### subscripts -/
def fIx : OF := fun x y ms P => match y with
  | .int i => (match x with
    | .tup xs => (match atI xs i with
      | some d => P d ms
      | none => False)
    | .str z => z.length ≤ sizeLine ∧ (match atI z.cps.toList i with
      | some c => P (.str ⟨#[c]⟩) ms
      | none => False)
    | _ => (match asL x ms with
      | some xs => (match atI xs i with
        | some d => P d ms
        | none => False)
      | none => False))
  | _ => False
theorem DRs.at {K : PySem.W.Frag} {F : Hp} {vs : List V} {xs : List D} {i : Int} {d : D} (r : DRs K F vs xs) (h : atI xs i = some d) : ∃ v, atI vs i = some v ∧ DR K F v d := by
  unfold atI at h ⊢
  rw [r.length]
  cases e : ixN xs.length i with
  | none => rw [e] at h; cases h
  | some j =>
    rw [e] at h
    exact r.get h
theorem opd_ix {K : PySem.W.Frag} : OpD K (rIx K) fIx := by
  intro F H ms x y dx dy P Q R rx ry h q
  cases ry with
  | int i =>
    unfold fIx at h
    have lst : ∀ {xs : List D}, asL dx ms = some xs → (match atI xs i with | some d => P d ms | none => False) → rIx K x (.int i) H Q := by
      intro xs e h
      obtain ⟨a, vs, rfl, hs, rs⟩ := R.asL rx e
      cases e2 : atI xs i with
      | none => rw [e2] at h; exact h.elim
      | some d =>
        rw [e2] at h
        obtain ⟨v, h1, h2⟩ := rs.at e2
        exact .inl ⟨a, vs, i, v, rfl, rfl, hs, h1, q d ms v F H h R Stp.refl h2⟩
    cases rx with
    | tup ha hs =>
      rename_i xs
      simp only at h
      cases e2 : atI xs i with
      | none => rw [e2] at h; exact h.elim
      | some d =>
        rw [e2] at h
        obtain ⟨v, h1, h2⟩ := hs.at e2
        exact .inr (.inl ⟨_, _, i, v, rfl, rfl, R.sub.sqT ha, h1, q d ms v F H h R Stp.refl h2⟩)
    | str z =>
      simp only at h
      obtain ⟨hz, h⟩ := h
      cases e2 : atI z.cps.toList i with
      | none => rw [e2] at h; exact h.elim
      | some c =>
        rw [e2] at h
        exact .inr (.inr ⟨z, i, c, rfl, rfl, hz, e2, q _ ms _ F H h R Stp.refl (.str _)⟩)
    | lst ha hs => exact lst rfl h
    | fro ha hs => exact lst rfl h
    | opq _ =>
      simp only at h
      cases e : asL (.opq x) ms with
      | none => rw [e] at h; exact h.elim
      | some xs => rw [e] at h; exact lst e h
    | _ => exact h.elim
  | _ => exact h.elim
/-! o[i] = e, o a list that may change -/
def put : MS → Addr → List D → MS
  | [], _, _ => []
  | (q, xs) :: r, p, ys => if q = p then (q, ys) :: r else (q, xs) :: put r p ys
theorem put_fst : ∀ (ms : MS) (p : Addr) (ys : List D), (put ms p ys).map (·.1) = ms.map (·.1)
  | [], _, _ => rfl
  | (q, xs) :: r, p, ys => by
    unfold put
    split
    · rfl
    · rw [List.map_cons, List.map_cons, put_fst r p ys]
theorem put_mem : ∀ {ms : MS} {p : Addr} {ys : List D}, (ms.map (·.1)).Nodup → ∀ e ∈ put ms p ys, (e.1 = p ∧ e.2 = ys) ∨ (e ∈ ms ∧ e.1 ≠ p)
  | [], _, _, _, _, h => by cases h
  | (q, xs) :: r, p, ys, nd, e, h => by
    rw [List.map_cons, List.nodup_cons] at nd
    unfold put at h
    split at h
    · rename_i hq
      rcases List.mem_cons.mp h with rfl | h
      · exact .inl ⟨hq, rfl⟩
      · refine .inr ⟨List.mem_cons_of_mem _ h, fun z => nd.1 ?_⟩
        show q ∈ _
        rw [hq, ← z]
        exact List.mem_map_of_mem h
    · rename_i hq
      rcases List.mem_cons.mp h with rfl | h
      · exact .inr ⟨List.mem_cons_self, hq⟩
      · rcases put_mem nd.2 e h with z | z
        · exact .inl z
        · exact .inr ⟨List.mem_cons_of_mem _ z.1, z.2⟩
theorem look_put_same : ∀ {ms : MS} {p : Addr} {xs ys : List D}, look ms p = some xs → look (put ms p ys) p = some ys
  | [], _, _, _, h => by cases h
  | (q, zs) :: r, p, xs, ys, h => by
    unfold look at h
    unfold put
    by_cases e : q = p
    · rw [if_pos e, look, if_pos e]
    · rw [if_neg e] at h ⊢
      rw [look, if_neg e]
      exact look_put_same h
theorem look_put_ne : ∀ {ms : MS} {p q : Addr} {ys : List D}, p ≠ q → look (put ms p ys) q = look ms q
  | [], _, _, _, _ => rfl
  | (r, zs) :: ms, p, q, ys, h => by
    unfold put
    by_cases e : r = p
    · subst e
      rw [if_pos rfl, look, look, if_neg h, if_neg h]
    · rw [if_neg e, look, look, look_put_ne h]
section
variable {K : PySem.W.Frag} {F H : Hp} {ms : MS}
theorem relPut (R : Rel K F H ms) {p : Addr} {xs ys : List D} {ws : List V} (h : look ms p = some xs) (r : DRs K F ws ys) : Rel K F (upd H p (.lst ws)) (put ms p ys) := by
  obtain ⟨hF, vs, hH, _⟩ := R.look h
  refine ⟨fun b u e => ?_, fun e he => ?_, by rw [put_fst]; exact R.nd, R.one⟩
  · rw [upd_ne fun z => by rw [z, hF] at e; cases e]; exact R.sub b u e
  · rcases put_mem R.nd e he with ⟨z1, z2⟩ | ⟨z1, z2⟩
    · rw [z1, z2]; exact ⟨hF, ws, upd_same, r⟩
    · obtain ⟨y1, us, y2, y3⟩ := R.mu e z1
      exact ⟨y1, us, by rw [upd_ne z2]; exact y2, y3⟩
theorem stpPut (R : Rel K F H ms) {p : Addr} {xs ys : List D} {ws : List V} (h : look ms p = some xs) : Stp F H ms F (upd H p (.lst ws)) (put ms p ys) := by
  refine ⟨Sub.refl F, fun a u z1 z2 z3 => ?_, fun _ _ h => .inl h, fun e he => .inl ?_⟩
  · rw [upd_ne fun z => z3 _ (look_mem h) z.symm]; exact z1
  · have := List.mem_map_of_mem (f := (·.1)) he
    rw [put_fst] at this
    obtain ⟨q, hq, z⟩ := List.mem_map.mp this
    exact ⟨q, hq, z⟩
end
def dSetIx (do_ di dv : DE) : DTS := fun E ds ms => dv ds ms fun v m1 => do_ ds m1 fun o m2 => di ds m2 fun i m3 => match o, i with
  | .opq (.ref p), .int k => (match look m3 p with
    | some xs => (match ixN xs.length k with
      | some j => E.nx ds (put m3 p (xs.set j v))
      | none => False)
    | none => False)
  | _, _ => False
section
variable {X : Cx} {o i e : Expr} {do_ di dv : DE} {pos spos : Pos}
theorem pds_setIx (he : PD X e dv) (ho : PD X o do_) (hi : PD X i di)
    (ha : ∀ v, assign (.Subscript o i pos) X.env v = (do
      let ov ← holding [v] (eval o X.env)
      let iv ← holding [v, ov] (eval i X.env)
      standAt pos
      holding [v, ov, iv] (setItem ov iv v)
      release [v, ov, iv] []) := by intro _; rfl)
    (hs : swapsWithSole [.Subscript o i pos] e spos.line X.env = pure false := by rfl) (hw : swappedStores [.Subscript o i pos] e X.env = pure none := by rfl)
    (h1 : (assignEach [.Subscript o i pos] X.env).map (·.2) = [assign (.Subscript o i pos) X.env] := by rfl) : PDS X (.Assign [.Subscript o i pos] e spos) (dSetIx do_ di dv) :=
  psImp (ps_asg he (pg_sub ho hi set_list ha) hs hw h1) fun D σ H ⟨F, ds, ms, E, R, S, h, n, r, k, q⟩ =>
    ⟨F, ds, ms, _, R, S, h, fun d m1 v F1 H1 p1 R1 s1 r1 => ⟨F1, ds, m1, _, R1, S.mono s1.sub, p1, fun do' m2 o' F2 H2 p2 R2 s2 r2 =>
      ⟨F2, ds, m2, _, R2, S.mono (s1.trans s2).sub, p2, fun di' m3 i' F3 H3 p3 R3 s3 r3 => by
        match do', di', p3, r2, r3 with
        | .opq (.ref p), .int kk, p3, r2, .int _ =>
          cases r2
          cases e1 : look m3 p with
          | none => simp only [e1] at p3
          | some xs =>
            simp only [e1] at p3
            cases e2 : ixN xs.length kk with
            | none => simp only [e2] at p3
            | some j =>
              simp only [e2] at p3
              obtain ⟨hF, vs, hH, rs⟩ := R3.look e1
              refine ⟨p, vs, kk, j, rfl, rfl, hH, by rw [rs.length]; exact e2, ?_⟩
              have s13 := (s1.trans s2).trans s3
              exact n ds _ σ F3 _ p3 (relPut R3 e1 (rs.set ((r1.mono s2.sub).mono s3.sub) j)) (s13.trans (stpPut R3 e1)) (S.mono s13.sub)⟩⟩⟩
end
/-! xs.append(e) -/
def dAppend (dx : DE) (aa : DA) : DE := fun ds ms P => dx ds ms fun x m1 => match x with
  | .opq (.ref p) => (∃ xs0, look m1 p = some xs0) ∧ aa ds m1 fun ys m2 => (match ys with
    | [y] => (match look m2 p with
      | some xs => xs.length < sizeLine ∧ P .non (put m2 p (xs ++ [y]))
      | none => False)
    | _ => False)
  | _ => False
section
variable {X : Cx} {o e : Expr} {dx : DE} {aa : DA} {apos cpos : Pos}
theorem pd_append (ho : PD X o dx) (ha : PDA X [e] aa)
    (hbase : attributeBase o "append" X.env (eval o X.env) = eval o X.env := by rfl)
    (hfew : ((backTo cpos (starEach [e] X.env)).all (fun x => !x.1) && (backToKw cpos (keywordEach [] X.env)).all (fun x => x.1.isSome) && decide ([e].length + ([] : List Keyword).length + (if ([] : List Keyword).isEmpty then 0 else 1) < 30)) = true := by rfl)
    (hline : (apos.endLine == cpos.line) = true := by rfl) (hs : starEach [e] X.env = (false, eval e X.env) :: starEach [] X.env := by rfl) (hplain : (backTo cpos (starEach [] X.env)).any (·.1) = false := by rfl) :
    PD X (.Call (.Attribute o "append" apos) [e] [] cpos) (dAppend dx aa) :=
  peImp (pe_bm PySem.F.plainAttrs_list PySem.F.slot_list_append PySem.F.type_list_append mt_append ho ha hbase hfew hline hs hplain) fun σ H Q ⟨F, ds, ms, P, R, S, h1, h2⟩ =>
    ⟨F, ds, ms, _, R, S, h1, fun x m1 v F1 H1 p1 R1 s1 r1 => by
      match x, p1, r1 with
      | .opq (.ref p), ⟨⟨xs0, e0⟩, h⟩, r1 =>
        cases r1
        obtain ⟨hF, vs, hH, rs⟩ := R1.look e0
        refine ⟨.inl ⟨rfl, vs, SqL.of hH⟩, F1, ds, m1, _, R1, S.mono s1.sub, h, fun ys m2 ws F2 H2 p2 R2 s2 r2 => ?_⟩
        match ys, r2, p2 with
        | [y], .cons ry .nil, p3 =>
          cases e1 : look m2 p with
          | none => simp only [e1] at p3
          | some xs =>
            simp only [e1] at p3
            obtain ⟨hF2, vs2, hH2, rs2⟩ := R2.look e1
            exact ⟨p, vs2, _, rfl, rfl, hH2, by rw [rs2.length]; exact p3.1, h2 _ _ _ F2 _ p3.2 (relPut R2 e1 (rs2.append (.cons ry .nil))) ((s1.trans s2).trans (stpPut R2 e1)) .non⟩⟩
end
/-! a list that changes no more -/
def drp : MS → Addr → MS
  | [], _ => []
  | (q, xs) :: r, p => if q = p then r else (q, xs) :: drp r p
theorem drp_sub : ∀ {ms : MS} {p : Addr}, ∀ e ∈ drp ms p, e ∈ ms
  | [], _, _, h => by cases h
  | (q, xs) :: r, p, e, h => by
    unfold drp at h
    split at h
    · exact List.mem_cons_of_mem _ h
    · rcases List.mem_cons.mp h with rfl | h
      · exact List.mem_cons_self
      · exact List.mem_cons_of_mem _ (drp_sub e h)
theorem drp_ne : ∀ {ms : MS} {p : Addr}, (ms.map (·.1)).Nodup → ∀ e ∈ drp ms p, e.1 ≠ p
  | [], _, _, _, h => by cases h
  | (q, xs) :: r, p, nd, e, h => by
    rw [List.map_cons, List.nodup_cons] at nd
    unfold drp at h
    split at h
    · rename_i hq
      exact fun z => nd.1 (by show q ∈ _; rw [hq, ← z]; exact List.mem_map_of_mem h)
    · rename_i hq
      rcases List.mem_cons.mp h with rfl | h
      · exact hq
      · exact drp_ne nd.2 e h
theorem drp_nd : ∀ {ms : MS} {p : Addr}, (ms.map (·.1)).Nodup → ((drp ms p).map (·.1)).Nodup
  | [], _, h => h
  | (q, xs) :: r, p, nd => by
    rw [List.map_cons, List.nodup_cons] at nd
    unfold drp
    split
    · exact nd.2
    · rw [List.map_cons, List.nodup_cons]
      refine ⟨fun z => nd.1 ?_, drp_nd nd.2⟩
      obtain ⟨e, he, ze⟩ := List.mem_map.mp z
      exact List.mem_map.mpr ⟨e, drp_sub e he, ze⟩
section
variable {K : PySem.W.Frag} {F H : Hp} {ms : MS}
theorem relFrz (R : Rel K F H ms) {p : Addr} {xs : List D} (h : look ms p = some xs) : ∃ vs, Rel K (upd F p (.lst vs)) H (drp ms p) ∧ Stp F H ms (upd F p (.lst vs)) H (drp ms p) ∧ DR K (upd F p (.lst vs)) (.ref p) (.lst xs) := by
  obtain ⟨hF, vs, hH, rs⟩ := R.look h
  have sF : Sub F (upd F p (.lst vs)) := Sub.new hF
  refine ⟨vs, ⟨fun b u e => ?_, fun e he => ?_, drp_nd R.nd, R.one.mono sF⟩, ⟨sF, fun a u h _ _ => h, fun a u e => ?_, fun e he => .inl ⟨e, drp_sub e he, rfl⟩⟩, .lst upd_same (rs.mono sF)⟩
  · by_cases hb : b = p
    · subst hb; rw [upd_same] at e; rw [hH]; exact e
    · rw [upd_ne hb] at e; exact R.sub b u e
  · obtain ⟨y1, us, y2, y3⟩ := R.mu e (drp_sub e he)
    exact ⟨by rw [upd_ne (drp_ne R.nd e he)]; exact y1, us, y2, y3.mono sF⟩
  · by_cases hb : a = p
    · subst hb; exact .inr (.inr ⟨_, look_mem h, rfl⟩)
    · rw [upd_ne hb] at e; exact .inl e
end
def dFrz (de : DE) : DE := fun ds ms P => de ds ms fun d m => match d with
  | .opq (.ref p) => (match look m p with
    | some xs => P (.lst xs) (drp m p)
    | none => False)
  | _ => False
theorem pd_frz {X : Cx} {e : Expr} {de : DE} (h : PD X e de) : PD X e (dFrz de) := peImp h fun σ H Q ⟨F, ds, ms, P, R, S, h1, h2⟩ =>
  ⟨F, ds, ms, _, R, S, h1, fun d m v F1 H1 p1 R1 s1 r1 => by
    match d, p1, r1 with
    | .opq (.ref p), p1, r1 =>
      cases r1
      cases e1 : look m p with
      | none => simp only [e1] at p1
      | some xs =>
        simp only [e1] at p1
        obtain ⟨vs, z1, z2, z3⟩ := relFrz R1 e1
        exact h2 _ _ _ _ _ p1 z1 (s1.trans z2) z3⟩
end DL

namespace DL
open PySem PySem.Spec PyProof.Rows L2

/-! ### calls of built-ins -/
abbrev CF := List D → MS → (D → MS → Prop) → Prop
def CalD (K : PySem.W.Frag) (r : List V → Hp → VK → Prop) (f : CF) : Prop := ∀ (F H : Hp) (ms : MS) (vs : List V) (xs : List D) (P : D → MS → Prop) (Q : VK), Rel K F H ms → DRs K F vs xs → f xs ms P →
  (∀ d ms' v F' H', P d ms' → Rel K F' H' ms' → Stp F H ms F' H' ms' → DR K F' v d → Q v H') → r vs H Q
def dCB (f : CF) (aa : DA) : DE := fun ds ms P => aa ds ms fun xs m => f xs m P
section
variable {X : Cx} {K : PySem.W.Frag} {x : Str} {p pos : Pos} {e : Expr} {es : List Expr} {aa : DA} {id T : String} {r : List V → Hp → VK → Prop} {f : CF} {da : DE}
theorem lift_cb (hf : CalD K r f) : ∀ σ H Q, lift K (dCB f aa) σ H Q → tCB r (liftA K aa) σ H Q := fun σ H Q ⟨F, ds, ms, P, R, S, h1, h2⟩ =>
  ⟨F, ds, ms, _, R, S, h1, fun xs m vs F1 H1 p1 R1 s1 r1 => hf F1 H1 m vs xs P Q R1 r1 p1 fun d m2 v F2 H2 p2 R2 s2 r2 => h2 d m2 v F2 H2 p2 R2 (s1.trans s2) r2⟩
theorem pd_callB (hc : CallR X (.builtin id) r) (hf : CalD X.K r f) (hg : Gl X x) (hm : X.mg x = none) (hv : bootBuiltins x = some (.builtin id)) (ha : PDA X (e :: es) aa) (hn : x ≠ "__name__" := by decide) (hdb : (x == ("__debug__" : Str)) = false := by decide)
    (he : starEach (e :: es) X.env = (false, eval e X.env) :: starEach es X.env := by rfl) (hpl : (backTo pos (starEach es X.env)).any (·.1) = false := by rfl) : PD X (.Call (.Name x p) (e :: es) [] pos) (dCB f aa) :=
  peImp (pe_callB hc hg hm hv ha hn hdb he hpl) (lift_cb hf)
theorem pd_callTy (hc : CallR X (.type T) r) (hf : CalD X.K r f) (hg : Gl X x) (hm : X.mg x = none) (hv : bootBuiltins x = some (.type T)) (ha : PDA X (e :: es) aa) (hn : x ≠ "__name__" := by decide) (hdb : (x == ("__debug__" : Str)) = false := by decide)
    (he : starEach (e :: es) X.env = (false, eval e X.env) :: starEach es X.env := by rfl) (hpl : (backTo pos (starEach es X.env)).any (·.1) = false := by rfl) : PD X (.Call (.Name x p) (e :: es) [] pos) (dCB f aa) :=
  peImp (pe_callTy hc hg hm hv ha hn hdb he hpl) (lift_cb hf)
end
def cAbs : CF := fun xs ms P => match xs with
  | [.int i] => P (.int (if i < 0 then -i else i)) ms
  | _ => False
def cMax2 : CF := fun xs ms P => match xs with
  | [.int i, .int j] => P (.int (if j > i then j else i)) ms
  | _ => False
def cMin2 : CF := fun xs ms P => match xs with
  | [.int i, .int j] => P (.int (if j < i then j else i)) ms
  | _ => False
def cInt1 : CF := fun xs ms P => match xs with
  | [.int i] => P (.int i) ms
  | [.bl k] => P (.int (if k then 1 else 0)) ms
  | _ => False
def cLen : CF := fun xs ms P => match xs with
  | [.str z] => z.length ≤ sizeLine ∧ P (.int z.length) ms
  | [.tup ys] => P (.int ys.length) ms
  | [d] => (match asL d ms with
    | some ys => P (.int ys.length) ms
    | none => False)
  | _ => False
def cList : CF := fun xs ms P => match xs with
  | [.tup ys] => P (.lst ys) ms
  | [d] => (match asL d ms with
    | some ys => P (.lst ys) ms
    | none => False)
  | _ => False
def cTuple : CF := fun xs ms P => match xs with
  | [.tup ys] => P (.tup ys) ms
  | [d] => (match asL d ms with
    | some ys => P (.tup ys) ms
    | none => False)
  | _ => False
/-- the truths in a list, the ints in a list -/
def blsOf : List D → Option (List Bool)
  | [] => some []
  | .bl b :: r => (blsOf r).map (b :: ·)
  | _ :: _ => none
def intsOf : List D → Option (List Int)
  | [] => some []
  | .int b :: r => (intsOf r).map (b :: ·)
  | _ :: _ => none
def cAll : CF := fun xs ms P => match xs with
  | [.lst ys] => (match blsOf ys with
    | some bs => P (.bl (bs.all id)) ms
    | none => False)
  | _ => False
def cAny : CF := fun xs ms P => match xs with
  | [.lst ys] => (match blsOf ys with
    | some bs => P (.bl (bs.any id)) ms
    | none => False)
  | _ => False
def cSum : CF := fun xs ms P => match xs with
  | [.lst ys] => (match intsOf ys with
    | some ns => P (.int ns.sum) ms
    | none => False)
  | _ => False
section
variable {X : Cx} {K : PySem.W.Frag} {F : Hp}
theorem DRs.bls : ∀ {vs : List V} {ys : List D} {bs : List Bool}, DRs K F vs ys → blsOf ys = some bs → vs = bs.map V.bl
  | _, _, _, .nil, h => by cases h; rfl
  | _, .bl b :: r, bs, .cons (.bl _) t, h => by
    unfold blsOf at h
    obtain ⟨cs, e, rfl⟩ := Option.map_eq_some_iff.mp h
    rw [List.map_cons, DRs.bls t e]
  | _, .non :: _, _, .cons _ _, h => by cases h
  | _, .int _ :: _, _, .cons _ _, h => by cases h
  | _, .str _ :: _, _, .cons _ _, h => by cases h
  | _, .lst _ :: _, _, .cons _ _, h => by cases h
  | _, .tup _ :: _, _, .cons _ _, h => by cases h
  | _, .fro _ :: _, _, .cons _ _, h => by cases h
  | _, .edic :: _, _, .cons _ _, h => by cases h
  | _, .dct _ :: _, _, .cons _ _, h => by cases h
  | _, .opq _ :: _, _, .cons _ _, h => by cases h
  | _, .exc _ _ _ :: _, _, .cons _ _, h => by cases h
theorem DRs.intsV : ∀ {vs : List V} {ys : List D} {bs : List Int}, DRs K F vs ys → intsOf ys = some bs → vs = bs.map V.int
  | _, _, _, .nil, h => by cases h; rfl
  | _, .int b :: r, bs, .cons (.int _) t, h => by
    unfold intsOf at h
    obtain ⟨cs, e, rfl⟩ := Option.map_eq_some_iff.mp h
    rw [List.map_cons, DRs.intsV t e]
  | _, .non :: _, _, .cons _ _, h => by cases h
  | _, .bl _ :: _, _, .cons _ _, h => by cases h
  | _, .str _ :: _, _, .cons _ _, h => by cases h
  | _, .lst _ :: _, _, .cons _ _, h => by cases h
  | _, .tup _ :: _, _, .cons _ _, h => by cases h
  | _, .fro _ :: _, _, .cons _ _, h => by cases h
  | _, .edic :: _, _, .cons _ _, h => by cases h
  | _, .dct _ :: _, _, .cons _ _, h => by cases h
  | _, .opq _ :: _, _, .cons _ _, h => by cases h
  | _, .exc _ _ _ :: _, _, .cons _ _, h => by cases h
theorem cal_abs : CalD K (fun xs H Q => ∃ i, xs = [.int i] ∧ Q (.int (if i < 0 then -i else i)) H) cAbs := fun F H ms vs xs P Q R r h q => by
  match xs, r, h with
  | [.int i], .cons (.int _) .nil, h => exact ⟨i, rfl, q _ ms _ F H h R Stp.refl (.int _)⟩
theorem cal_max2 : CalD K (fun xs H Q => ∃ i j, xs = [.int i, .int j] ∧ Q (.int (if j > i then j else i)) H) cMax2 := fun F H ms vs xs P Q R r h q => by
  match xs, r, h with
  | [.int i, .int j], .cons (.int _) (.cons (.int _) .nil), h => exact ⟨i, j, rfl, q _ ms _ F H h R Stp.refl (.int _)⟩
theorem cal_min2 : CalD K (fun xs H Q => ∃ i j, xs = [.int i, .int j] ∧ Q (.int (if j < i then j else i)) H) cMin2 := fun F H ms vs xs P Q R r h q => by
  match xs, r, h with
  | [.int i, .int j], .cons (.int _) (.cons (.int _) .nil), h => exact ⟨i, j, rfl, q _ ms _ F H h R Stp.refl (.int _)⟩
theorem cal_int1 : CalD K (fun xs H Q => (∃ i, xs = [.int i] ∧ Q (.int i) H) ∨ ∃ k, xs = [.bl k] ∧ Q (.int (if k then 1 else 0)) H) cInt1 := fun F H ms vs xs P Q R r h q => by
  match xs, r, h with
  | [.int i], .cons (.int _) .nil, h => exact .inl ⟨i, rfl, q _ ms _ F H h R Stp.refl (.int _)⟩
  | [.bl i], .cons (.bl _) .nil, h => exact .inr ⟨i, rfl, q _ ms _ F H h R Stp.refl (.int _)⟩
theorem cal_len : CalD K (fun xs H Q => ∃ x n, xs = [x] ∧ LenV K x H n ∧ Q (.int n) H) cLen := fun F H ms vs xs P Q R r h q => by
  match xs, r, h with
  | a :: _ :: _, _, h => cases a <;> exact h.elim
  | [d], .cons (v := v) rd .nil, h =>
    have fin : ∀ {ys : List D}, asL d ms = some ys → P (.int ys.length) ms → ∃ x n, [v] = [x] ∧ LenV K x H n ∧ Q (.int n) H := by
      intro ys e hp
      obtain ⟨a, ws, rfl, h1, h2⟩ := R.asL rd e
      exact ⟨_, _, rfl, .inl ⟨ws, h1, rfl⟩, q _ ms _ F H (by rw [h2.length]; exact hp) R Stp.refl (.int _)⟩
    cases rd with
    | str z => exact ⟨_, _, rfl, ⟨h.1, rfl⟩, q _ ms _ F H h.2 R Stp.refl (.int _)⟩
    | tup ha hs => exact ⟨_, _, rfl, .inr ⟨_, R.sub.sqT ha, rfl⟩, q _ ms _ F H (by rw [hs.length]; exact h) R Stp.refl (.int _)⟩
    | lst ha hs => exact fin rfl h
    | fro ha hs => exact fin rfl h
    | opq _ =>
      unfold cLen at h
      simp only at h
      cases e : asL (.opq v) ms with
      | none => rw [e] at h; exact h.elim
      | some ys => rw [e] at h; exact fin e h
    | _ => exact h.elim
theorem cal_list : CalD K (fun xs H Q => ∃ p ys, xs = [.ref p] ∧ (SqL K H p ys ∨ SqT K H p ys) ∧ ∀ l, H l = none → Q (.ref l) (upd H l (.lst ys))) cList := fun F H ms vs xs P Q R r h q => by
  match xs, r, h with
  | a :: _ :: _, _, h => cases a <;> exact h.elim
  | [d], .cons (v := v) rd .nil, h =>
    have fin : ∀ {ys : List D}, asL d ms = some ys → P (.lst ys) ms → ∃ p zs, [v] = [V.ref p] ∧ (SqL K H p zs ∨ SqT K H p zs) ∧ ∀ l, H l = none → Q (.ref l) (upd H l (.lst zs)) := by
      intro ys e hp
      obtain ⟨a, ws, rfl, h1, h2⟩ := R.asL rd e
      exact ⟨_, _, rfl, .inl h1, fun l hl => q _ ms _ _ _ hp (R.new hl) (Stp.new R hl) (R.newLst hl h2)⟩
    cases rd with
    | tup ha hs => exact ⟨_, _, rfl, .inr (R.sub.sqT ha), fun l hl => q _ ms _ _ _ h (R.new hl) (Stp.new R hl) (R.newLst hl hs)⟩
    | lst ha hs => exact fin rfl h
    | fro ha hs => exact fin rfl h
    | opq _ =>
      unfold cList at h
      simp only at h
      cases e : asL (.opq v) ms with
      | none => rw [e] at h; exact h.elim
      | some ys => rw [e] at h; exact fin e h
    | _ => exact h.elim
theorem cal_tuple : CalD K (fun xs H Q => ∃ p ys, xs = [.ref p] ∧ ((SqL K H p ys ∧ ∀ l, H l = none → Q (.ref l) (upd H l (.tup ys))) ∨ (SqT K H p ys ∧ Q (.ref p) H))) cTuple := fun F H ms vs xs P Q R r h q => by
  match xs, r, h with
  | a :: _ :: _, _, h => cases a <;> exact h.elim
  | [d], .cons (v := v) rd .nil, h =>
    have fin : ∀ {ys : List D}, asL d ms = some ys → P (.tup ys) ms → ∃ p zs, [v] = [V.ref p] ∧ ((SqL K H p zs ∧ ∀ l, H l = none → Q (.ref l) (upd H l (.tup zs))) ∨ (SqT K H p zs ∧ Q (.ref p) H)) := by
      intro ys e hp
      obtain ⟨a, ws, rfl, h1, h2⟩ := R.asL rd e
      exact ⟨_, _, rfl, .inl ⟨h1, fun l hl => q _ ms _ _ _ hp (R.new hl) (Stp.new R hl) (R.newTup hl h2)⟩⟩
    cases rd with
    | tup ha hs => exact ⟨_, _, rfl, .inr ⟨R.sub.sqT ha, q _ ms _ F H h R Stp.refl (.tup ha hs)⟩⟩
    | lst ha hs => exact fin rfl h
    | fro ha hs => exact fin rfl h
    | opq _ =>
      unfold cTuple at h
      simp only at h
      cases e : asL (.opq v) ms with
      | none => rw [e] at h; exact h.elim
      | some ys => rw [e] at h; exact fin e h
    | _ => exact h.elim
theorem cal_all : CalD K (rAll K) cAll := fun F H ms vs xs P Q R r h q => by
  match xs, r, h with
  | [.lst ys], .cons (.lst ha hs) .nil, h =>
    unfold cAll at h
    cases e : blsOf ys with
    | none => simp only [e] at h
    | some bs =>
      simp only [e] at h
      have e2 := hs.bls e
      subst e2
      exact ⟨_, bs, rfl, SqL.of (R.sub _ _ ha), q _ ms _ F H h R Stp.refl (.bl _)⟩
theorem cal_any : CalD K (rAny K) cAny := fun F H ms vs xs P Q R r h q => by
  match xs, r, h with
  | [.lst ys], .cons (.lst ha hs) .nil, h =>
    unfold cAny at h
    cases e : blsOf ys with
    | none => simp only [e] at h
    | some bs =>
      simp only [e] at h
      have e2 := hs.bls e
      subst e2
      exact ⟨_, bs, rfl, SqL.of (R.sub _ _ ha), q _ ms _ F H h R Stp.refl (.bl _)⟩
theorem cal_sum : CalD K (rSum K) cSum := fun F H ms vs xs P Q R r h q => by
  match xs, r, h with
  | [.lst ys], .cons (.lst ha hs) .nil, h =>
    unfold cSum at h
    cases e : intsOf ys with
    | none => simp only [e] at h
    | some ns =>
      simp only [e] at h
      have e2 := hs.intsV e
      subst e2
      exact ⟨_, ns, rfl, SqL.of (R.sub _ _ ha), q _ ms _ F H h R Stp.refl (.int _)⟩
end

/-! ### repr -/
def Shw (d : D) : Prop := ∃ p, toPy d = some p ∧ p.showable = true ∧ p.depth ≤ 100 ∧ p.shown.length ≤ sizeLine
def repS (d : D) : Str := match toPy d with
  | some p => p.shown
  | none => default
def cRepr : CF := fun xs ms P => match xs with
  | [d] => Shw d ∧ P (.str (repS d)) ms
  | _ => False
def rRepr (K : PySem.W.Frag) : List V → Hp → VK → Prop := fun xs H Q => ∃ F x d, xs = [x] ∧ Sub F H ∧ OneR K F ∧ DR K F x d ∧ Shw d ∧ Q (.str (repS d)) H
theorem call_reprD {X : Cx} {k : Nat} (hr : RoomG k X.A) : CallR X (.builtin "repr") (rRepr X.K) := by
  intro pins s σ H xs us Q I r h
  obtain ⟨F, x, d, rfl, sb, one, hd, ⟨p, e, z1, z3, z4⟩, q⟩ := h
  obtain ⟨u, rfl, ru⟩ := vals1 r
  obtain ⟨as, rd, ou⟩ := DR.readsA I sb d p x u hd e ru
  have z2 : p.hasDict = true → sysModules ∉ as := fun _ hm => (ou _ hm).not1 one rfl
  have er : repS d = p.shown := by unfold repS; rw [e]
  rw [er] at q
  have hu : X.A.units + (p.depth + 1) < cLine := by have := hr.r.un; omega
  cases rd with
  | none => exact PySem.P.repr_of_none ⟨.str _, H, I.tok _, ⟨_, rfl⟩, q⟩
  | bool b => exact PySem.P.repr_of_bool ⟨.str _, H, I.tok _, ⟨_, rfl⟩, q⟩
  | int i t => exact PySem.P.repr_of_int (of_decide_eq_true z1) ⟨.str _, H, I.tok _, ⟨_, rfl⟩, q⟩
  | str y t => exact PySem.P.repr_of_str ⟨.str _, H, I.tok _, ⟨_, rfl⟩, q⟩ z4
  | list h1 h2 h3 h4 => exact repr_of_reads' (.list h1 h2 h3 h4) z1 z2 hr.g hu (fun _ _ e => e) (fun h' t tk hk => ⟨.str _, H, I.kept hk, ⟨_, rfl⟩, q⟩) z4
  | tuple h1 h2 h3 h4 => exact repr_of_reads' (.tuple h1 h2 h3 h4) z1 z2 hr.g hu (fun _ _ e => e) (fun h' t tk hk => ⟨.str _, H, I.kept hk, ⟨_, rfl⟩, q⟩) z4
  | dict h1 h2 h3 h4 h5 => exact repr_of_reads' (.dict h1 h2 h3 h4 h5) z1 z2 hr.g hu (fun _ _ e => e) (fun h' t tk hk => ⟨.str _, H, I.kept hk, ⟨_, rfl⟩, q⟩) z4
theorem cal_repr {K : PySem.W.Frag} : CalD K (rRepr K) cRepr := fun F H ms vs xs P Q R r h q => by
  match xs, r, h with
  | [d], .cons rd .nil, h => exact ⟨F, _, d, rfl, R.sub, R.one, rd, h.1, q _ ms _ F H h.2 R Stp.refl (.str _)⟩

/-! ### isinstance, of a built-in class -/
inductive Ty where
  | non | bool | int | str | list | tuple | dict
  deriving DecidableEq
def Ty.nm : Ty → String
  | .non => "NoneType"
  | .bool => "bool"
  | .int => "int"
  | .str => "str"
  | .list => "list"
  | .tuple => "tuple"
  | .dict => "dict"
def tyD (d : D) : Option Ty := match d with
  | .non => some .non
  | .bl _ => some .bool
  | .int _ => some .int
  | .str _ => some .str
  | .lst _ => some .list
  | .tup _ => some .tuple
  | .edic => some .dict
  | _ => none
def subT (a b : Ty) : Bool := decide (a = b) || (decide (a = .bool) && decide (b = .int))
theorem subT_ok : ∀ a b : Ty, b ≠ .non → kitB a.nm b.nm = some (subT a b) := by
  intro a b h
  cases a <;> cases b <;> first | exact absurd rfl h | decide +kernel
def dIsi (T : Ty) (de : DE) : DE := fun ds ms P => de ds ms fun d m => match tyD d with
  | some a => P (.bl (subT a T)) m
  | none => False
theorem tyX_of {K : PySem.W.Frag} {F H : Hp} {ms : MS} {v : V} {d : D} {a : Ty} (R : Rel K F H ms) (r : DR K F v d) (h : tyD d = some a) : TyX K H v (.type a.nm) := by
  cases r with
  | non => cases h; exact .base .non
  | bl b => cases h; exact .base (.bl b)
  | int i => cases h; exact .base (.int i)
  | str x => cases h; exact .base (.str x)
  | lst ha hs => cases h; exact .base (.lst (R.sub _ _ ha))
  | tup ha hs =>
    cases h
    rcases R.sub.sqT ha with (z | ⟨o, z⟩) | ⟨o, its, n, z1, z2, _⟩
    · exact .base (.tup z)
    · exact .fTuple z
    · exact .kTuple z1 z2
  | edic ha => cases h; exact .base (.dK (R.sub _ _ ha))
  | _ => cases h
theorem pd_isi {X : Cx} {e : Expr} {de : DE} {x : Str} {p p2 pos : Pos} (T : Ty) (hT : T ≠ .non) (hg : Gl X "isinstance") (hm : X.mg "isinstance" = none) (hg2 : Gl X x) (hm2 : X.mg x = none) (hv : bootBuiltins x = some (.type T.nm)) (hn : x ≠ "__name__") (hd : (x == ("__debug__" : Str)) = false)
    (h : PD X e de) (he : starEach [e, .Name x p2] X.env = (false, eval e X.env) :: starEach [.Name x p2] X.env := by rfl) (hpl : (backTo pos (starEach [.Name x p2] X.env)).any (·.1) = false := by rfl) :
    PD X (.Call (.Name "isinstance" p) [e, .Name x p2] [] pos) (dIsi T de) :=
  peImp (pe_callB call_isi hg hm (by decide +kernel) (pa_cons h (pa_cons (pe_bltn (v := .ty T.nm) hg2 hm2 hv rfl hn hd) pa_nil) he) (by decide) (by decide) he hpl) fun σ H Q ⟨F, ds, ms, P, R, S, h1, h2⟩ =>
    ⟨F, ds, ms, _, R, S, h1, fun d m v F1 H1 p1 R1 s1 r1 => by
      cases e1 : tyD d with
      | none => rw [e1] at p1; exact p1.elim
      | some a =>
        rw [e1] at p1
        exact ⟨v, .ty T.nm, .type a.nm, .type T.nm, _, rfl, .ty _, tyX_of R1 r1 e1, kit_ty (subT_ok a T hT), h2 _ m _ F1 H1 p1 R1 s1 (.bl _)⟩⟩

/-! ### slices -/
abbrev DO := DS → MS → (Option Int → MS → Prop) → Prop
def liftO (K : PySem.W.Frag) (t : DO) : TO := fun σ H Q => ∃ F ds ms P, Rel K F H ms ∧ Sl K F σ ds ∧ t ds ms P ∧ ∀ o ms' F' H', P o ms' → Rel K F' H' ms' → Stp F H ms F' H' ms' → Q o H'
abbrev PDO (X : Cx) (e : Option Expr) (t : DO) : Prop := PO X e (liftO X.K t)
theorem poImp {X : Cx} {e : Option Expr} {t t' : TO} (h : PO X e t) (hi : ∀ σ H Q, t' σ H Q → t σ H Q) : PO X e t' := ⟨fun pins s σ H Q I hq => h.run pins s σ H Q I (hi σ H Q hq)⟩
def oNone : DO := fun _ ms P => P none ms
def oSome (de : DE) : DO := fun ds ms P => de ds ms fun d m => match d with
  | .int i => P (some i) m
  | _ => False
def cutL {α : Type} (xs : List α) (lo hi : Option Int) : List α := (xs.drop (HT.sIx xs.length 0 lo)).take (HT.sIx xs.length xs.length hi - HT.sIx xs.length 0 lo)
abbrev SF := D → Option Int → Option Int → MS → (D → MS → Prop) → Prop
def fSl : SF := fun x lo hi ms P => match x with
  | .str z => z.length ≤ sizeLine ∧ P (.str (cutS z lo hi)) ms
  | .tup xs => P (.tup (cutL xs lo hi)) ms
  | _ => (match asL x ms with
    | some xs => P (.lst (cutL xs lo hi)) ms
    | none => False)
def dSl (de : DE) (lo hi : DO) : DE := fun ds ms P => de ds ms fun x m1 => lo ds m1 fun l m2 => hi ds m2 fun u m3 => fSl x l u m3 P
section
variable {X : Cx} {K : PySem.W.Frag} {e : Expr} {de : DE} {lo hi : Option Expr} {tl th : DO} {p2 pos : Pos} {F : Hp}
theorem pdo_none : PDO X none oNone := poImp po_none fun σ H Q ⟨F, ds, ms, P, R, S, h1, h2⟩ => h2 none ms F H h1 R Stp.refl
theorem pdo_some (h : PD X e de) : PDO X (some e) (oSome de) := poImp (po_some h) fun σ H Q ⟨F, ds, ms, P, R, S, h1, h2⟩ =>
  ⟨F, ds, ms, _, R, S, h1, fun d m v F1 H1 p1 R1 s1 r1 => by
    cases r1 with
    | int i => exact ⟨i, rfl, h2 _ m F1 H1 p1 R1 s1⟩
    | _ => exact p1.elim⟩
theorem DRs.cut {vs : List V} {xs : List D} (r : DRs K F vs xs) (l u : Option Int) : DRs K F (cutV vs l u) (cutL xs l u) := by
  unfold cutV cutL
  rw [r.length]
  exact (r.drop _).take _
def rSlD (K : PySem.W.Frag) : V → Option Int → Option Int → Hp → VK → Prop := fun x l u H Q => rSlL K x l u H Q ∨ (rSlS x l u H Q ∨ rSlA K x l u H Q)
theorem sl_D : SlR X (rSlD X.K) := sl_list.or (sl_str.or sl_tupA)
theorem pd_slice (he : PD X e de) (hl : PDO X lo tl) (hu : PDO X hi th) : PD X (.Subscript e (.Slice lo hi none p2) pos) (dSl de tl th) := peImp (pe_slice sl_D he hl hu) fun σ H Q ⟨F, ds, ms, P, R, S, h1, h2⟩ =>
  ⟨F, ds, ms, _, R, S, h1, fun x m1 v F1 H1 p1 R1 s1 r1 => ⟨F1, ds, m1, _, R1, S.mono s1.sub, p1, fun l m2 F2 H2 p2 R2 s2 => ⟨F2, ds, m2, _, R2, S.mono (s1.trans s2).sub, p2, fun u m3 F3 H3 p3 R3 s3 => by
    have s13 := (s1.trans s2).trans s3
    have r3 := (r1.mono s2.sub).mono s3.sub
    have lst : ∀ {xs : List D}, asL x m3 = some xs → P (.lst (cutL xs l u)) m3 → rSlD X.K v l u H3 Q := by
      intro xs e1 hp
      obtain ⟨a, ws, rfl, z1, z2⟩ := R3.asL r3 e1
      exact .inl ⟨a, ws, rfl, z1, fun p hp2 => h2 _ m3 _ _ _ hp (R3.new hp2) (s13.trans (Stp.new R3 hp2)) (R3.newLst hp2 (z2.cut l u))⟩
    cases r3 with
    | str z => exact .inr (.inl ⟨z, rfl, p3.1, h2 _ m3 _ F3 H3 p3.2 R3 s13 (.str _)⟩)
    | tup ha hs =>
      refine .inr (.inr ⟨_, _, rfl, R3.sub.sqT ha, fun e => ?_, fun _ p hp2 => h2 _ m3 _ _ _ p3 (R3.new hp2) (s13.trans (Stp.new R3 hp2)) (R3.newTup hp2 (hs.cut l u))⟩)
      have p3 : P (.tup (cutL _ l u)) m3 := p3
      unfold cutL at p3
      rw [hs.length] at e
      rw [e.1, e.2, List.drop_zero, Nat.sub_zero, List.take_length] at p3
      exact h2 _ m3 _ F3 H3 p3 R3 s13 (.tup ha hs)
    | lst ha hs => exact lst rfl p3
    | fro ha hs => exact lst rfl p3
    | opq _ =>
      unfold fSl at p3
      simp only at p3
      cases e1 : asL (.opq v) m3 with
      | none => rw [e1] at p3; exact p3.elim
      | some xs => rw [e1] at p3; exact lst e1 p3
    | _ => exact p3.elim⟩⟩⟩
end
end DL

namespace DL
open PySem PySem.Spec PyProof.Rows L2

theorem bnd_of {K : PySem.W.Frag} {x qual : Str} {st : Stmt} {f : Addr} {fd : FuncData} {ps ks : List Str} {n : Nat} {is : List Nat} (F : Fun K x qual st f fd)
    (h : ∀ (kV doc pm : Value) (an : Option Addr) (cdv ct : Value) (us ws : List Value), us.length = n → ws.length = ks.length →
      bindArgs (PySem.W.fnOf x qual (defArgs st) (defBody st) (defScope st) .none kV doc pm an cdv ct) ⟨us, ks.zip ws⟩ = pure (ps.zip (pick is (us ++ ws)))) : Bnd K fd ps n ks is := by
  obtain ⟨oc, od, kV, doc, pm, an, cdv, ct, osl, e, lk, hcd⟩ := F.ex
  subst e
  exact ⟨fun s us ws _ h1 h2 => .of_eq (h kV doc pm an cdv ct us ws h1 h2)⟩
/-- the law's call at the heap behind the top -/
theorem lawG {P : Program} {w : World} {K : PySem.W.Frag} {mg mb : Str → Option Value} {k : Nat} {fa a : Addr} {fd : FuncData} {x : Str} {sp : Sp} {s1 : Shared} {vs : List Value} {ns : List Int}
    (KX : K.In s1.heap) (hns : s1.heap.Ns mainGlobals mg) (hb : s1.heap.Ns builtinsNs mb) (hk1 : K.lookup sysModules = none) (hs1 : s1.heap.NoSeer)
    (hbb : ∀ x : Str, x ≠ "__name__" → mb x = bootBuiltins x) (hlim : s1.heap.NoLimit) (hg : s1.gens = #[])
    (ha : s1.heap.get? a = some { cls := .type "list", data := .seq vs.toArray })
    (hi : IntsAre vs ns) (hl : ns.length ≤ sizeLine) (hr : Room k callerA)
    (G : ∀ base : Heap, K.In base → base.Ns mainGlobals mg → FnG P w K mg base k fa fd [x] sp)
    (hbind : ∀ (s : Shared) (u : Value), BindsTo s fd ⟨[u], []⟩ [(x, u)])
    (hsp : ∀ H : Hp, OneR K H → SqL K H a (ns.map V.int) → sp [.ref a] H (fun v _ => v = .bl true) E0) :
    codeAny (model P w) callerA (.call (.ref fa) ⟨[.ref a], []⟩)
      (fun r s' => r = .ok (.ret (.bool true)) ∧ OldK s1.heap s'.heap ∧ s'.os = s1.os ∧ AllBare s'.gens) s1 := by
  have rv : Vals (ns.map V.int) vs := vals_ints hi
  have lenV := hi.length
  obtain ⟨mm, ⟨om, esm, epm, hom, hdm, _⟩, _⟩ := hs1.mods
  have a1 : a ≠ sysModules := fun z => by
    rw [z, hom] at ha
    cases ha
    cases hdm
  have core : ∀ H : Hp, (∀ b, H b = none ∨ ∃ o u, H b = some (.frz o u)) → OneR K H → SqL K H a (ns.map V.int) → HOk P w H s1.heap → (∀ b, H b ≠ none → b = a ∨ b = sysModules) → (H a ≠ none → K.lookup a = none) →
      codeAny (model P w) callerA (.call (.ref fa) ⟨[.ref a], []⟩)
        (fun r s' => r = .ok (.ret (.bool true)) ∧ OldK s1.heap s'.heap ∧ s'.os = s1.os ∧ AllBare s'.gens) s1 := by
    intro H hO h1 hS hok hA hK
    have noA : ∀ {b : Addr} {o : Obj} {es : Array DictEntry} {ep : Nat}, b ≠ sysModules → s1.heap.get? b = some o → o.data = .dict es ep → H b = none := by
      intro b o es ep hb e d
      cases q : H b with
      | none => rfl
      | some u =>
        have e' : b = a := (hA b (by rw [q]; exact nofun)).resolve_right hb
        rw [e', ha] at e
        cases e
        cases d
    have nsK : ∀ {b : Addr} {m : Str → Option Value}, b ≠ sysModules → s1.heap.Ns b m → (hidT s1.heap H).Ns b m := by
      rintro b m hb ⟨o, es, ep, e, d, r⟩
      exact ⟨o, es, ep, hidT_get e (noA hb e d), d, r⟩
    have hKb : K.In (hidT s1.heap H) := by
      intro b o e
      refine hidT_get (KX b o e) ?_
      cases q : H b with
      | none => rfl
      | some u =>
        have nq : H b ≠ none := by rw [q]; exact nofun
        rcases hA b nq with e' | e'
        · rw [e'] at e nq
          rw [hK nq] at e
          cases e
        · rw [e', hk1] at e
          cases e
    have hM : Mod K mg (hidT s1.heap H) := by
      obtain ⟨mc, h1, h2⟩ := hlim
      exact ⟨hKb, nsK (by decide) hns, ⟨mb, nsK (by decide) hb, hbb⟩, ⟨mc, nsK (by decide) h1, h2⟩⟩
    have e0 : Env0 P w K mg (hidT s1.heap H) callerA [] s1 H := by
      refine ⟨rfl, hM, fun b o e => of_hidT e, Nat.le_of_eq (hidT_size _ _), trivial, fun b hb => ?_, hok, .of_eq hg⟩
      cases hb
    have run := (G _ hKb (nsK (by decide) hns)).go callerA [] s1 H ⟨[.ref a], []⟩ [.ref a] [.ref a] _ ⟨hr, rfl⟩ e0 (hbind s1 (.ref a)) (.cons rfl .nil) (hsp H h1 hS)
    refine codeAny_mono run fun r s' h => ?_
    match r, h with
    | .error e, h => exact h.elim
    | .ok .next, h => exact False.elim h
    | .ok .brk, h => exact False.elim h
    | .ok .cont, h => exact False.elim h
    | .ok (.ret u), h =>
      obtain ⟨v, H', os, bare, un, hok', r', q⟩ := h
      have q' : v = .bl true := q
      subst q'
      have r2 : u = Value.bool true := r'
      subst r2
      refine ⟨rfl, OldK.of_keep fun b o e => ?_, os, bare⟩
      cases q : H b with
      | none => exact un.keep b o e q (fun z => by cases z) (fun z => by cases z)
      | some u =>
        rcases hO b with z | ⟨ob, xs, z⟩
        · rw [q] at z; cases z
        · obtain ⟨e1, _⟩ := hok b _ z
          obtain ⟨e2, _⟩ := hok' b _ (un.frzs b ob _ z)
          rw [e] at e1
          cases e1
          exact e2
  have o1 : ∀ H : Hp, H sysModules = some (.frz om (.ext fun h => h.get? sysModules = some om)) → ObjOk P w H s1.heap sysModules (.frz om (.ext fun h => h.get? sysModules = some om)) := fun H _ =>
    ⟨hom, hom, ⟨om, hom⟩, fun h1 h2 z k => k _ z⟩
  cases hk : K.lookup a with
  | some o =>
    have e := KX a o hk
    rw [ha] at e
    cases e
    have hH : ∀ b u, (if b = sysModules then some (HO.frz om (.ext fun h => h.get? sysModules = some om)) else none) = some u → b = sysModules ∧ u = HO.frz om (.ext fun h => h.get? sysModules = some om) := by
      intro b u z
      by_cases hb : b = sysModules
      · rw [if_pos hb] at z; cases z; exact ⟨hb, rfl⟩
      · rw [if_neg hb] at z; cases z
    refine core (fun b => if b = sysModules then some (.frz om (.ext fun h => h.get? sysModules = some om)) else none) (fun b => ?_) ⟨hk1, om, _, if_pos rfl⟩ (.inr ⟨_, vs.toArray, _, hk, rfl, rfl, rfl, ?_, ?_⟩) (fun b u z => ?_) (fun b z => ?_) fun z => absurd (if_neg a1) z
    · by_cases hb : b = sysModules
      · exact .inr ⟨_, _, if_pos hb⟩
      · exact .inl (if_neg hb)
    · rw [List.size_toArray, lenV]; exact hl
    · rw [List.toList_toArray]; exact rv
    · obtain ⟨rfl, rfl⟩ := hH b u z
      exact o1 _ (if_pos rfl)
    · cases q : (if b = sysModules then some (HO.frz om (.ext fun h => h.get? sysModules = some om)) else none) with
      | none => exact absurd q z
      | some u => exact .inr (hH b u q).1
  | none =>
    have hH : ∀ b u, (if b = a then some (HO.frz { cls := .type "list", data := .seq vs.toArray } (.lst (ns.map V.int))) else if b = sysModules then some (HO.frz om (.ext fun h => h.get? sysModules = some om)) else none) = some u →
        (b = a ∧ u = HO.frz { cls := .type "list", data := .seq vs.toArray } (.lst (ns.map V.int))) ∨ (b = sysModules ∧ u = HO.frz om (.ext fun h => h.get? sysModules = some om)) := by
      intro b u z
      by_cases hb : b = a
      · rw [if_pos hb] at z; cases z; exact .inl ⟨hb, rfl⟩
      · rw [if_neg hb] at z
        by_cases hb2 : b = sysModules
        · rw [if_pos hb2] at z; cases z; exact .inr ⟨hb2, rfl⟩
        · rw [if_neg hb2] at z; cases z
    refine core (fun b => if b = a then some (.frz { cls := .type "list", data := .seq vs.toArray } (.lst (ns.map V.int))) else if b = sysModules then some (.frz om (.ext fun h => h.get? sysModules = some om)) else none) (fun b => ?_) ⟨hk1, om, _, (if_neg a1.symm).trans (if_pos rfl)⟩ (.inl (.inr ⟨_, if_pos rfl⟩)) (fun b u z => ?_) (fun b z => ?_) fun _ => hk
    · by_cases hb : b = a
      · exact .inr ⟨_, _, if_pos hb⟩
      · by_cases hb2 : b = sysModules
        · exact .inr ⟨_, _, (if_neg hb).trans (if_pos hb2)⟩
        · exact .inl ((if_neg hb).trans (if_neg hb2))
    · rcases hH b u z with ⟨rfl, rfl⟩ | ⟨rfl, rfl⟩
      · refine ⟨ha, ?_, vs, _, rv, ha⟩
        rw [List.length_map]; exact hl
      · exact o1 _ z
    · cases q : (if b = a then some (HO.frz { cls := .type "list", data := .seq vs.toArray } (.lst (ns.map V.int))) else if b = sysModules then some (HO.frz om (.ext fun h => h.get? sysModules = some om)) else none) with
      | none => exact absurd q z
      | some u => exact (hH b u q).imp (·.1) (·.1)
/-- what the head leaves, from the law's promise -/
theorem walkG {l : PySem.W.OpenLaw} {n k : Nat} {q : Program} {loose : List Str} {XP : (Str → Option Value) → Heap → Prop} {YP : World → Heap → Prop} {d : DefRec} {K : Params → PySem.W.Frag} {fs : FS} {x : Str}
    (hn : l.most = some n) (hn2 : n ≤ sizeLine) (hdf : d.params.defaults = []) (hr : Room k callerA) (hq : importsNone q = true) (hK1 : ∀ p : Params, (K p).lookup sysModules = none)
    (hY : ∀ (w : World) (h : Heap), YP w h → (K w.params).In h)
    (G : ∀ (w : World) (mg : Str → Option Value) (fa : Addr) (h : Heap), (K w.params).In h → h.Ns mainGlobals mg → mg d.name = some (.ref fa) →
      ∃ fd : FuncData, (∀ (s : Shared) (u : Value), BindsTo s fd ⟨[u], []⟩ [(x, u)]) ∧
        ∀ base : Heap, (K w.params).In base → base.Ns mainGlobals mg → FnG l.prog w (K w.params) mg base k fa fd [x] (spD (K w.params) fs))
    (hsp : ∀ ns : List Int, ns.length ≤ n → fs [.fro (ns.map D.int)] [] (fun v _ => v = .bl true)) :
    PySem.W.WalkO q loose XP YP l.row.toRowW d [] (fun f vs => PySem.call f vs) := by
  refine Att.attach_call hn hdf ?_
  intro w s0 s1 mg mb fa o pm cd doc a vs ns Gr Y ho hd hcd hmg hobj hints hlen hg
  have KX := hY w _ Y
  obtain ⟨fd, hb, hF⟩ := G w mg fa _ KX Gr.T.g hmg
  refine lawG KX Gr.T.g Gr.T.b (hK1 _) (Gr.T.seer hq) Gr.T.builtins Gr.T.nolimit hg hobj hints (Nat.le_trans hlen hn2) hr hF hb fun H h1 hS => ?_
  refine ⟨H, [.fro (ns.map D.int)], [], _, ⟨Sub.refl H, fun p hp => (by cases hp), List.nodup_nil, h1⟩, .cons (.fro hS (DRs.ints ns)) .nil, hsp ns hlen, ?_⟩
  intro e m v F' H' z R s r
  subst z
  cases r
  rfl
end DL

namespace DL
open PySem PySem.Spec PyProof.Rows L2

/-! ### what may be raised: the class by its name, its fields -/
abbrev ZK := Str → List Str → List D → MS → Prop
abbrev FX := List D → MS → (D → MS → Prop) → ZK → Prop
def spX (K : PySem.W.Frag) (fs : FX) : Sp := fun vs H Q E => ∃ F ds ms P Z, Rel K F H ms ∧ DRs K F vs ds ∧ fs ds ms P Z ∧
  (∀ d ms' v F' H', P d ms' → Rel K F' H' ms' → Stp F H ms F' H' ms' → DR K F' v d → Q v H') ∧
  (∀ c ns xs ms' cv d ws F' H', Z c ns xs ms' → Rel K F' H' ms' → Stp F H ms F' H' ms' → PySem.W.nsIn K mainGlobals c = some (some cv) → XD F' d ns ws → DRs K F' ws xs → E cv d H')
structure FnX (P : Program) (w : World) (K : PySem.W.Frag) (mg : Str → Option Value) (base : Heap) (k : Nat) (f : Addr) (fd : FuncData) (ps : List Str) (sp : Sp) : Prop where
  len : ∀ vs H Q E, sp vs H Q E → vs.length = ps.length
  go : ∀ (A : Around) (outer : List Env) (s : Shared) (H : Hp) (args : Args) (us : List Value) (vs : List V) (Q : VK) (E : XK), RoomG k A → Env0 P w K mg base A outer s H →
    BindsTo s fd args (ps.zip us) → Vals vs us → sp vs H Q E → codeAny (model P w) A (.call (.ref f) args) (CR (L2.CX P w) outer P w H s Q E) s
/-- where nothing is raised -/
theorem FnX.plain {P : Program} {w : World} {K : PySem.W.Frag} {mg : Str → Option Value} {base : Heap} {k : Nat} {f : Addr} {fd : FuncData} {ps : List Str} {fx : FX} {fs : FS}
    (F : FnX P w K mg base k f fd ps (spX K fx)) (h : ∀ ds ms P, fs ds ms P → fx ds ms P fun _ _ _ _ => False) : FnG P w K mg base k f fd ps (spD K fs) := by
  have hc : ∀ vs H Q E, spD K fs vs H Q E → spX K fx vs H Q E0 := fun vs H Q E ⟨F0, ds, ms, P0, R, r, q, z⟩ => ⟨F0, ds, ms, P0, _, R, r, h _ _ _ q, z, fun _ _ _ _ _ _ _ _ _ y => y.elim⟩
  refine ⟨fun vs H Q E q => F.len vs H Q E0 (hc vs H Q E q), fun A outer s H args us vs Q hr e0 hb r q => ?_⟩
  refine codeAny_mono (F.go A outer s H args us vs Q E0 hr e0 hb r (hc vs H Q E0 q)) fun r s' z => ?_
  match r, z with
  | .ok (.ret _), z => exact z
  | .ok .next, z => exact z
  | .ok .brk, z => exact z
  | .ok .cont, z => exact z
  | .error e, z =>
    obtain ⟨_, _, _, _, _, _, _, _, _, _, _, _, y⟩ := z
    exact y.elim
def liftX (K : PySem.W.Frag) (W : WX) (t : DTS) : TS := fun D σ H => ∃ F ds ms E, Rel K F H ms ∧ Sl K F σ ds ∧ t E ds ms ∧
  (∀ ds' ms' σ' F' H', E.nx ds' ms' → Rel K F' H' ms' → Stp F H ms F' H' ms' → Sl K F' σ' ds' → D.nx σ' H') ∧
  (∀ d ms' v F' H', E.rt d ms' → Rel K F' H' ms' → Stp F H ms F' H' ms' → DR K F' v d → D.rt v H') ∧
  (∀ ds' ms' σ' F' H', E.bk ds' ms' → Rel K F' H' ms' → Stp F H ms F' H' ms' → Sl K F' σ' ds' → D.bk σ' H') ∧
  (∀ ds' ms' σ' F' H', E.ct ds' ms' → Rel K F' H' ms' → Stp F H ms F' H' ms' → Sl K F' σ' ds' → D.ct σ' H') ∧
  (∀ c ns xs ds' ms' cv d ws σ' F' H', E.ex c ns xs ds' ms' → Rel K F' H' ms' → Stp F H ms F' H' ms' → Sl K F' σ' ds' → PySem.W.nsIn K mainGlobals c = some (some cv) → XD F' d ns ws → DRs K F' ws xs → W cv d σ' H')
abbrev PX (X : Cx) (W : WX) (st : Stmt) (t : DTS) : Prop := PS X st (liftX X.K W t)
abbrev PXs (X : Cx) (W : WX) (st : List Stmt) (t : DTS) : Prop := PSs X st (liftX X.K W t)
section
variable {X : Cx} {W : WX} {st : Stmt} {rest : List Stmt} {t u : DTS} {c : Expr} {dt : DT} {pos : Pos}
theorem psNox (h : PDS X.nox st t) : PDS X st t := ⟨fun pins s σ H D I hw => wpAny_mono (h.run pins s σ H D (I.wish _) hw) (fun _ _ q => SP.unwish q) fun _ _ z => z.elim⟩
/-- a statement that raises nothing -/
theorem px_of (h : PDS X st t) : PX X W st t := psImp h fun D σ H ⟨F, ds, ms, E, R, S, h, n, r, k, q, _⟩ => ⟨F, ds, ms, E, R, S, h, n, r, k, q⟩
theorem px_nil : PXs X W [] dNext := pssImp pss_nil fun D σ H ⟨F, ds, ms, E, R, S, h, n, _⟩ => n ds ms σ F H h R Stp.refl S
theorem liftX_seq {K : PySem.W.Frag} : ∀ D σ H, liftX K W (dSeq t u) D σ H → tSeq (liftX K W t) (liftX K W u) D σ H := fun D σ H ⟨F, ds, ms, E, R, S, h, n, r, k, q, x⟩ =>
  ⟨F, ds, ms, { E with nx := u E }, R, S, h, fun ds1 m1 σ1 F1 H1 h1 R1 s1 S1 => ⟨F1, ds1, m1, E, R1, S1, h1,
    fun ds2 m2 σ2 F2 H2 h2 R2 s2 S2 => n ds2 m2 σ2 F2 H2 h2 R2 (s1.trans s2) S2, fun d m2 v F2 H2 h2 R2 s2 r2 => r d m2 v F2 H2 h2 R2 (s1.trans s2) r2,
    fun ds2 m2 σ2 F2 H2 h2 R2 s2 S2 => k ds2 m2 σ2 F2 H2 h2 R2 (s1.trans s2) S2, fun ds2 m2 σ2 F2 H2 h2 R2 s2 S2 => q ds2 m2 σ2 F2 H2 h2 R2 (s1.trans s2) S2,
    fun c ns xs ds2 m2 cv d ws σ2 F2 H2 h2 R2 s2 S2 => x c ns xs ds2 m2 cv d ws σ2 F2 H2 h2 R2 (s1.trans s2) S2⟩, r, k, q, x⟩
theorem px_cons (h1 : PX X W st t) (h2 : PXs X W rest u) : PXs X W (st :: rest) (dSeq t u) := pssImp (pss_cons h1 h2) liftX_seq
theorem px_one (h1 : PX X W st t) : PXs X W [st] t := pss_one h1
theorem px_if {x y : List Stmt} (hc : PDT X c dt) (ha : PXs X W x t) (hb : PXs X W y u) : PX X W (.If c x y pos) (dIfS dt t u) := psImp (ps_if hc ha hb) fun D σ H ⟨F, ds, ms, E, R, S, h, n, r, k, q, x⟩ =>
  ⟨F, ds, ms, _, R, S, h, fun b m F1 H1 p1 R1 s1 => by
    have mk : ∀ {w : DTS}, w E ds m → liftX X.K W w D σ H1 := fun {w} hw => ⟨F1, ds, m, E, R1, S.mono s1.sub, hw,
      fun ds2 m2 σ2 F2 H2 h2 R2 s2 S2 => n ds2 m2 σ2 F2 H2 h2 R2 (s1.trans s2) S2, fun d m2 v F2 H2 h2 R2 s2 r2 => r d m2 v F2 H2 h2 R2 (s1.trans s2) r2,
      fun ds2 m2 σ2 F2 H2 h2 R2 s2 S2 => k ds2 m2 σ2 F2 H2 h2 R2 (s1.trans s2) S2, fun ds2 m2 σ2 F2 H2 h2 R2 s2 S2 => q ds2 m2 σ2 F2 H2 h2 R2 (s1.trans s2) S2,
      fun c ns xs ds2 m2 cv d ws σ2 F2 H2 h2 R2 s2 S2 => x c ns xs ds2 m2 cv d ws σ2 F2 H2 h2 R2 (s1.trans s2) S2⟩
    cases b with
    | true => exact mk p1
    | false => exact mk p1⟩
/-- raise X('..'), X an own class without an __init__ -/
def dRaise (c : Str) : DTS := fun E ds ms => E.ex c [] [] ds ms
theorem px_raise {C : Addr} {bmB : List Value} {B newId initId : String} {x m : Str} {j : Nat} {p p2 pos pos' : Pos} (hc : X.calm = true) (tk : Takes X W) (F : ExcBaseFacts B newId initId bmB) (q : PySem.W.excIn X.K C bmB newId = true) (gC : X.mg x = some (.ref C)) (kC : PySem.W.keepIn X.K (.ref C) = true)
    (r : Raises X (.ref C)) (hg : Gl X x) (hn : PySem.W.nsIn X.K mainGlobals x = some (some (.ref C))) (hdb : (x == ("__debug__" : Str)) = false := by decide) :
    PX X W (.Raise (some (.Call (.Name x p) [.Constant (.str m) j p2] [] pos)) none pos') (dRaise x) :=
  psImp (ps_raise hc tk (pmk_own F q gC kC r hg hdb)) fun D σ H ⟨F0, ds, ms, E, R, S, h, _, _, _, _, z⟩ => z x [] [] ds ms _ none [] σ F0 H h R Stp.refl S hn (.inl ⟨rfl, rfl, rfl⟩) .nil
end

/-! ### calls of defs that may raise -/
section
variable {X : Cx} {W : WX} {k n : Nat} {f : Addr} {fd : FuncData} {ps ks : List Str} {is : List Nat} {sp : Sp} {fx : FX} {x : Str} {p pos kpos : Pos} {e : Expr} {es : List Expr} {aa : DA}
def tCallX (K : PySem.W.Frag) (W : WX) (n : Nat) (is : List Nat) (fx : FX) (aa : DA) : TE := fun σ H Q => liftA K aa σ H fun vs H1 => vs.length = n ∧ spX K fx (pick is vs) H1 Q fun cv d H2 => W cv d σ H2
theorem pe_callX (tk : Takes X W) (F : FnX X.prog X.w X.K X.mg X.base k f fd ps (spX X.K fx)) (hr : RoomG k X.A) (hg : Gl X x) (hm : X.mg x = some (.ref f)) (hk : PySem.W.keepIn X.K (.ref f) = true) (hb : Bnd X.K fd ps n [] is)
    (ha : PDA X (e :: es) aa) (hdb : (x == ("__debug__" : Str)) = false := by decide)
    (he : starEach (e :: es) X.env = (false, eval e X.env) :: starEach es X.env := by rfl)
    (hpl : (backTo pos (starEach es X.env)).any (·.1) = false := by rfl) :
    PE X (.Call (.Name x p) (e :: es) [] pos) (tCallX X.K W n is fx aa) := by
  refine ⟨fun pins s σ H Q I h => ?_⟩
  refine wpAny_Call_Name_kw (ld_glob I hg hm ?_ hdb)
  refine PySem.W.callWith_K (h₀ := X.base) I.ok.mod.kin hk (thn (ha.run pos pins s σ H _ I h) ?_) he hpl
  rintro us s1 ⟨vs, H1, I1, r, l, q⟩
  refine ⟨I1.kIn, ?_⟩
  have b := hb.to s1 us [] I1.kIn (r.length ▸ l) rfl
  rw [List.append_nil] at b
  refine wpAny_call (codeAny_mono (F.go X.A X.stack s1 H1 ⟨us, []⟩ _ _ Q _ hr I1.env0 b (pick_vals r is) q) fun r s' z => ?_)
  match r, z with
  | .error v, z => exact passAt tk σ pins H1 s1 v s' I1 z
  | .ok (.ret u), z => exact I1.after z
  | .ok .next, z => exact False.elim z
  | .ok .brk, z => exact False.elim z
  | .ok .cont, z => exact False.elim z
/-- f(..) as a statement -/
def dDoX (n : Nat) (is : List Nat) (fx : FX) (aa : DA) : DTS := fun E ds ms => aa ds ms fun xs m => xs.length = n ∧ fx (pick is xs) m (fun _ m' => E.nx ds m') fun c ns ys m' => E.ex c ns ys ds m'
theorem px_do (tk : Takes X W) (F : FnX X.prog X.w X.K X.mg X.base k f fd ps (spX X.K fx)) (hr : RoomG k X.A) (hg : Gl X x) (hm : X.mg x = some (.ref f)) (hk : PySem.W.keepIn X.K (.ref f) = true) (hb : Bnd X.K fd ps n [] is)
    (ha : PDA X (e :: es) aa) (hdb : (x == ("__debug__" : Str)) = false := by decide)
    (he : starEach (e :: es) X.env = (false, eval e X.env) :: starEach es X.env := by rfl)
    (hpl : (backTo pos (starEach es X.env)).any (·.1) = false := by rfl)
    (hs : swapsWith (.Call (.Name x p) (e :: es) [] pos) none kpos.line X.env = pure false := by rfl) : PX X W (.Expr (.Call (.Name x p) (e :: es) [] pos) kpos) (dDoX n is fx aa) :=
  psImp (ps_expr (pe_callX tk F hr hg hm hk hb ha hdb he hpl) hs) fun D σ H ⟨F0, ds, ms, E, R, S, h, n1, r1, k1, q1, x1⟩ =>
    ⟨F0, ds, ms, _, R, S, h, fun xs m vs F1 H1 p1 R1 s1 rs => ⟨rs.length.trans p1.1, F1, _, m, _, _, R1, pick_drs rs is, p1.2,
      fun d m2 v F2 H2 h2 R2 s2 r2 => n1 ds m2 σ F2 H2 h2 R2 (s1.trans s2) (S.mono (s1.trans s2).sub),
      fun c ns ys m2 cv d ws F2 H2 h2 R2 s2 hn hx hd => x1 c ns ys ds m2 cv d ws σ F2 H2 h2 R2 (s1.trans s2) (S.mono (s1.trans s2).sub) hn hx hd⟩⟩
end
end DL

namespace DL
open PySem PySem.Spec PyProof.Rows L2

theorem fnX_of {P : Program} {w : World} {K : PySem.W.Frag} {mg : Str → Option Value} {base : Heap} {k : Nat} {f : Addr} {fd : FuncData} {x qual : Str} {st : Stmt} {N ps : List Str} {fx : FX} {t : DTS}
    (F : Fun K x qual st f fd) (S : FnScope N ps (defScope st)) (len : ∀ ds ms Q Z, fx ds ms Q Z → ds.length = ps.length)
    (body : ∀ (cdv : Value) (A : Around) (outer : List Env) (s : Shared) (H : Hp) (E : XK), RoomG k (A.deeper (envOfC qual (defScope st) s.heap.objs.size f cdv)) →
      ∀ W : WX, Takes (cxOf (L2.CX P w) P w K mg base N qual (defScope st) f cdv A outer s H E) W → PXs (cxOf (L2.CX P w) P w K mg base N qual (defScope st) f cdv A outer s H E) W (defBody st) t)
    (sem : ∀ ds ms Q Z, fx ds ms Q Z → t { nx := fun _ m => Q .non m, rt := Q, ex := fun c ns xs _ m => Z c ns xs m } (startD N.length ds) ms) : FnX P w K mg base (k + 1) f fd ps (spX K fx) := by
  have hlen : ∀ vs H Q E, spX K fx vs H Q E → vs.length = ps.length := by
    rintro vs H Q E ⟨F0, ds, ms, P0, Z, R, r, h, _⟩
    rw [r.length]
    exact len ds ms P0 Z h
  refine ⟨hlen, ?_⟩
  intro A outer s H args us vs Q E hr e0 hb r hsp
  obtain ⟨oc, od, kV, doc, pm, an, cdv, ct, osl, rfl, lk, hcd⟩ := F.ex
  have hl := hlen _ _ _ _ hsp
  have KX : K.In s.heap := e0.mod.kin.keeps fun b o e => (e0.bs b o e).1
  have lim : s.heap.NoLimit := e0.mod.nolimit.keeps fun b o e => (e0.bs b o e).1
  have hkind : ∀ y ∈ ps.zip us, (defScope st).names.lookup y.1 = some .local ∨ ((defScope st).names.lookup y.1 = some .cell ∧
      ((cellsFrom (s.heap.objs.size + 1) (defScope st).names []).lookup y.1).isSome = true) := by
    rintro ⟨n, v⟩ hy
    exact (S.par n (List.of_mem_zip hy).1).imp id fun q => ⟨q, PySem.W.cellsFrom_some _ _ _ (.inl q)⟩
  have hr2 : RoomG k (A.deeper (envOfC qual (defScope st) s.heap.objs.size f cdv)) := ⟨hr.r.deeper _, hr.g⟩
  refine codeAny_call_function hr.r.depth (KX _ _ lk) rfl S.co S.gen rfl (PySem.W.codeRec_of KX hcd) (hb _ _ _ _ ?_)
  refine wpAny_newFunctionEnv_cells S.kind hkind fun env he s1 x1 => ?_
  subst he
  refine ⟨lim.keeps x1.toInCall.keep, codeAny_func ?_⟩
  have I : Inv (cxOf (L2.CX P w) P w K mg base N qual (defScope st) f cdv A outer s H E) [] (L2.start N vs) H s1 := inv_start S hr.r.hd e0 hl r x1
  have tk : Takes (cxOf (L2.CX P w) P w K mg base N qual (defScope st) f cdv A outer s H E) fun cls d _ H' => E cls d H' := takes_of rfl rfl rfl rfl
  have hq : liftX K (fun cls d _ H' => E cls d H') t { nx := fun _ H' => Q .non H', rt := Q } (L2.start N vs) H := by
    obtain ⟨F0, ds, ms, P0, Z, R, rd, h, q, z⟩ := hsp
    refine ⟨F0, startD N.length ds, ms, _, R, sl_start rd (by rw [hl, ← S.pre]; exact List.length_take_le' _ _), sem ds ms P0 Z h, ?_, ?_, ?_, ?_, ?_⟩
    · exact fun ds' ms' σ' F' H' y R' s' S' => q .non ms' .non F' H' y R' s' .non
    · exact fun d ms' v F' H' y R' s' r' => q d ms' v F' H' y R' s' r'
    · exact fun _ _ _ _ _ y _ _ _ => y.elim
    · exact fun _ _ _ _ _ y _ _ _ => y.elim
    · exact fun c ns xs ds' ms' cv d ws σ' F' H' y R' s' S' hn hx hd => z c ns xs ms' cv d ws F' H' y R' s' hn hx hd
  refine wpAny_mono ((body cdv A outer s H E hr2 _ tk).run [] s1 (L2.start N vs) H _ I hq) (fun fl s' hs => ?_) fun e s' hs => hs
  match fl, hs with
  | .ret u, hs =>
    obtain ⟨v, σ', H', J, rv, q⟩ := hs
    exact ⟨v, H', J.os, J.bare, J.base, J.hok, rv, q⟩
  | .next, hs =>
    obtain ⟨σ', H', J, q⟩ := hs
    exact ⟨V.non, H', J.os, J.bare, J.base, J.hok, rfl, q⟩
  | .brk, hs => obtain ⟨_, _, _, q⟩ := hs; exact False.elim q
  | .cont, hs => obtain ⟨_, _, _, q⟩ := hs; exact False.elim q

/-! ### a caught exception stays known behind the clause -/
section
variable {X : Cx} {pins : List (Addr × Obj)} {σ σ0 : L2.St} {H H0 : Hp} {s s0 : Shared}
theorem track {a : Addr} {oe : Obj} {fv : Array Value} {cv : Value} {d : Option Addr} (I : Inv X pins σ H s) (J : Inv X pins σ0 H0 s0) (hex : X.ex = []) (n0 : s0.heap.get? a = none) (na : H a = none) (ha : s.heap.get? a = some oe) (hz : Zc cv d oe) (hd : oe.data = .fields fv) :
    Inv X pins σ (upd H a (ExH cv d a)) s := by
  have apart : ∀ b, (∃ o, s0.heap.get? b = some o) → b ≠ a := fun b ⟨o, e⟩ z => by rw [z, n0] at e; cases e
  have first : ∀ b o, X.s_0.heap.get? b = some o → b ≠ a := fun b o e => apart b (J.base.there b o e (by rw [hex]; exact nofun))
  have told : ∀ {b o}, H b = some o → b ≠ a := fun {b o} e => ne_of_none e na
  refine ⟨I.ok, I.os, I.bare, ⟨I.base.keep, I.base.slot, fun b o e1 e2 e3 => ?_, I.base.there, fun b xs e => ?_, fun b o xs e => ?_, fun b ts e => ?_⟩, I.loc, I.cell, ?_, fun x c e => ?_, fun p hp => ?_, fun b o e => ?_, I.len⟩
  · rw [upd_ne (first b o e1)]; exact I.base.free b o e1 e2 e3
  · have z := I.base.tups b xs e
    rw [upd_ne (told z)]; exact z
  · have z := I.base.frzs b o xs e
    rw [upd_ne (told z)]; exact z
  · obtain ⟨m, z⟩ := I.base.tbls b ts e
    exact ⟨m, by rw [upd_ne (told z)]; exact z⟩
  · obtain ⟨m, ⟨o, _, _, e, _⟩, _⟩ := J.loc
    rw [upd_ne (apart _ ⟨o, e⟩)]; exact I.free
  · obtain ⟨v, o, e', _⟩ := J.cell x c e
    rw [upd_ne (apart c ⟨o, e'⟩)]; exact I.freeC x c e
  · obtain ⟨e1, e2, e3, e4, e5⟩ := I.pin p hp
    exact ⟨e1, by rw [upd_ne (apart _ ⟨_, (J.pin p hp).1⟩)]; exact e2, e3, e4, e5⟩
  · by_cases hb : b = a
    · subst hb
      rw [upd_same] at e
      cases e
      exact ⟨⟨oe, fv, ha, hz, hd⟩, ⟨oe, ha⟩, fun _ _ ⟨o, v, q, r⟩ k => ⟨o, v, k o q, r⟩⟩
    · rw [upd_ne hb] at e
      exact (I.hok b o e).stay (fun _ _ _ q => q) (fun c q => by rw [upd_ne (told q)]; exact q) fun c xs q => by rw [upd_ne (told q)]; exact q
end

/-- what the clause wishes of an exception: slot i is the clause's name, slot j the name under which it is kept -/
def wKeep (K : PySem.W.Frag) (c : Value) (i j : Nat) (Wout : WX) (D : Ends) : WX := fun cv d σ H => ∃ b, PySem.W.exmOne K cv c = some b ∧
  (b = true → ∀ a, H a = none → D.nx (((σ.set i (some (V.ref a))).set j (some (V.ref a))).set i none) (upd H a (ExH cv d a))) ∧ (b = false → Wout cv d σ H)
section
variable {X : Cx} {x n : Str} {c : Value} {i j : Nat} {body : List Stmt} {sv : Stmt} {np pos pos' : Pos} {tb : WX → TS} {Wout : WX}
theorem ps_tryKeep (hs : X.stack = X.env :: X.outer) (hf : X.env.frame = some X.env.locals) (hex : X.ex = []) (hN : X.N.Nodup) (hi : X.N[i]? = some n) (hln : X.env.kindOf n = some .local) (hc : Names X x c) (tk : Takes X Wout)
    (hb : ∀ (W : WX) (q : List (Addr × Obj)) (xe : Value → Shared → Prop), Takes (X.tr q xe) W → PassesOwn (model X.prog X.w) X.A X.env xe → PSs (X.tr q xe) body (tb W))
    (hsv : ∀ (a : Addr) (q : List (Addr × Obj)), PSs (X.suite a q) [sv] (tAsg (tVar i) (gName j))) :
    PS X (.Try body [.ExceptHandler (some (.Name x np)) (some n) [sv] pos'] [] [] pos) (fun D σ H => tb (wKeep X.K c i j Wout D) D σ H) := by
  refine ⟨fun pins s σ H D I h => wpAny_Try_except ?_⟩
  have ok := I.ok
  have fr : X.A.frames = some (X.env :: X.outer) := ok.frames.trans (congrArg some hs)
  have caught : Takes (X.tr (X.pn ++ pins) fun v t1 => wpAny (model X.prog X.w) X.A (noteFrame v X.env)
      (fun _ t2 => wpAny (model X.prog X.w) X.A (setFlight v none) (fun _ t3 => wpAny (model X.prog X.w) X.A (handleBy v X.env [.ExceptHandler (some (.Name x np)) (some n) [sv] pos']) (SP X pins D) X.xe t3) X.xe t2) X.xe t1) (wKeep X.K c i j Wout D) := by
    rintro v t ⟨a, B, t0, pins0, τ, G, cv, d, rfl, J0, low, up, sky, na, ho, hg, b, hm, yes, no⟩
    have J : Inv X pins τ G t0 := J0.ofTry ok
    rw [show (X.tr (X.pn ++ pins) _).stack = X.env :: X.outer from hs] at sky
    refine Sky.land Zc.steady fr hf sky fun g1 fly u1 => ?_
    have J1 : Inv X pins τ G { t with heap := g1 } := J.landed low fly.1 (up.trans u1) ho hg
    obtain ⟨o1, f1, ha1, hz1, hd1⟩ := fly.there
    have off : a ∉ frs (X.env :: X.outer) := fun hm => by
      obtain ⟨_, o2, ha2, nf⟩ := fly.2.2.1.mem hm
      cases ha1.symm.trans ha2
      exact nf _ hd1
    have offL : a ≠ X.env.locals := fun z => off (List.mem_filterMap.mpr ⟨X.env, List.mem_cons_self, hf.trans (congrArg some z.symm)⟩)
    have offF : a ∉ X.fs := fun hm => by
      obtain ⟨e1, h1, h2⟩ := List.mem_filterMap.mp hm
      exact off (List.mem_filterMap.mpr ⟨e1, List.mem_cons_of_mem _ h1, h2⟩)
    have n0 : t0.heap.get? a = none := by
      cases e : t0.heap.get? a with
      | none => rfl
      | some o =>
        have z := low a o e (by rw [show (X.tr (X.pn ++ pins) _).stack = X.env :: X.outer from hs]; exact off)
        rw [fly.2.1] at z
        cases z
    have S1 := J1.suite ha1 hd1 na offL offF
    have ty : PySem.W.Looks (model X.prog X.w) g1 (typeOf (.ref a)) cv := fun _ _ _ _ k q => wpAny_typeOf_ref (k _ _ ha1) (by rw [hz1.1]; exact q)
    refine wpAny_handleBy_cons (codeAny_handlers_test ?_) (fun q => nomatch q)
    have name : ∀ {Q E : Value → Shared → Prop}, Q c { t with heap := g1 } → wpAny (model X.prog X.w) (X.A.mark (some (.ref a))) (eval (.Name x np) X.env) Q E { t with heap := g1 } := by
      intro Q E q
      rcases hc with ⟨h1, h2, h3 | ⟨h3, h4, h5⟩⟩
      · exact ld_glob S1 h1 h3 q h2
      · exact ld_blt S1 h1 h3 h4 q h5 h2
    refine name ((PySem.W.exm_one J1.kIn ty hm).here ?_)
    cases b with
    | true =>
      refine codeAny_handlers_suite_as (HandSPX.lands_againZ fly fun g2 fly2 u2 => ?_)
      have J2 : Inv X pins τ G { t with heap := g2 } := J.landed low fly2.1 ((up.trans u1).trans u2) ho hg
      obtain ⟨o2, f2, ha2, hz2, hd2⟩ := fly2.there
      refine store_ok (X := X.suite a ((a, o2) :: (X.pn ++ pins))) (v := V.ref a) (J2.suite ha2 hd2 na offL offF) hN hi (.inl hln) rfl (fun t5 S5 => ?_) (.inr hln)
      have lt : i < τ.length := by
        have := J2.len
        have := (List.getElem?_eq_some_iff.mp hi).1
        omega
      have rd : tAsg (tVar i) (gName j) { nx := fun σ6 H6 => H6 = G ∧ σ6 = (τ.set i (some (V.ref a))).set j (some (V.ref a)), rt := fun _ _ => False } (τ.set i (some (V.ref a))) G := ⟨V.ref a, List.getElem?_set_self lt, rfl, rfl⟩
      refine wpAny_mono ((hsv a _).run [] t5 _ G _ S5 rd) (fun fl t6 z => ?_) fun _ _ z => z.elim
      match fl, z with
      | .next, ⟨σ6, H6, S6, e6, e7⟩ =>
        subst e6 e7
        obtain ⟨ha6, _⟩ := S6.pin (a, o2) (List.mem_append_left _ List.mem_cons_self)
        have T6 := track (S6.unsuite ok) J hex n0 na ha6 hz2 hd2
        exact gone_ok T6 hN hi hln fun t7 J7 => ⟨_, _, J7, yes rfl a na⟩
      | .brk, ⟨_, _, _, z⟩ => exact z.elim
      | .cont, ⟨_, _, _, z⟩ => exact z.elim
      | .ret _, ⟨_, _, _, _, _, z⟩ => exact z.elim
    | false =>
      refine wpAny_handleBy_nil ?_
      obtain ⟨_, _, _, o3, f3, T, _, _, ha3, _, hd3, h13, _⟩ := id fly
      unfold PySem.passOn
      refine wpAny_bind (wpAny_field ha3 hd3 h13 ?_)
      rw [if_neg (by simp)]
      have last : wpAny (model X.prog X.w) X.A (setFlight (.ref a) X.env.frame) (fun _ t4 => wpAny (model X.prog X.w) X.A (throw (.ref a) : Sem Flow) (SP X pins D) X.xe t4) X.xe { t with heap := g1 } := by
        rw [hf]
        exact HandSPX.setFlight_upZ fly fun g4 held u4 => wpAny_throw (tk _ _ ⟨a, B, t0, pins, τ, G, cv, d, rfl, J, low, (up.trans u1).trans u4, .inr (.inr (hs ▸ held)), na, ho, hg, no rfl⟩)
      first
        | exact wpAny_bind (wpAny_pure (wpAny_bind last))
        | exact wpAny_bind last
  refine wpAny_mono ((hb _ _ _ caught PassesOwn.looking).run [] s σ H D (I.toTry _) h) (fun fl t1 z => ?_) fun _ _ z => z
  match fl, z with
  | .next, ⟨σ1, H1, J1, q⟩ => exact wpAny_execs_nil ⟨σ1, H1, J1.ofTry ok, q⟩
  | .brk, ⟨σ1, H1, J1, q⟩ => exact ⟨σ1, H1, J1.ofTry ok, q⟩
  | .cont, ⟨σ1, H1, J1, q⟩ => exact ⟨σ1, H1, J1.ofTry ok, q⟩
  | .ret _, ⟨v1, σ1, H1, J1, r, q⟩ => exact ⟨v1, σ1, H1, J1.ofTry ok, r, q⟩
end
end DL

namespace DL
open PySem PySem.Spec PyProof.Rows L2

theorem Sl.off {K : PySem.W.Frag} {F : Hp} {o : Option V} : ∀ {σ : L2.St} {ds : DS} (i : Nat), Sl K F σ ds → Sl K F (σ.set i o) (ds.set i none)
  | _, _, i, .nil => by cases i <;> exact .nil
  | _, _, 0, .sm _ r => .nn r
  | _, _, 0, .nn r => .nn r
  | _, _, i + 1, .sm q r => .sm q (Sl.off i r)
  | _, _, i + 1, .nn r => .nn (Sl.off i r)
/-- try: body, except x as n: y = n; ml: of each class that may come whether the clause takes it -/
def dTry (ml : List (Str × Bool)) (i j : Nat) (tb : DTS) : DTS := fun E ds ms => tb { E with ex := fun c ns xs ds' ms' => match ml.lookup c with
  | some true => E.nx ((setSlot ds' j (.exc c ns xs)).set i none) ms'
  | some false => E.ex c ns xs ds' ms'
  | none => False } ds ms
def dTry0 (ml : List (Str × Bool)) (i j : Nat) (tb : DTS) : DTS := fun E ds ms => dTry ml i j tb { E with ex := fun _ _ _ _ _ => False } ds ms
section
variable {X : Cx} {x n : Str} {cl : Value} {i j : Nat} {body : List Stmt} {sv : Stmt} {np pos pos' : Pos} {tb : DTS} {W : WX} {ml : List (Str × Bool)}
theorem px_try (hc : Names X x cl) (hml : ∀ c b cv, ml.lookup c = some b → PySem.W.nsIn X.K mainGlobals c = some (some cv) → PySem.W.exmOne X.K cv cl = some b) (tk : Takes X W)
    (hb : ∀ (W : WX) (q : List (Addr × Obj)) (xe : Value → Shared → Prop), Takes (X.tr q xe) W → PassesOwn (model X.prog X.w) X.A X.env xe → PXs (X.tr q xe) W body tb)
    (hsv : ∀ (a : Addr) (q : List (Addr × Obj)), PSs (X.suite a q) [sv] (tAsg (tVar i) (gName j))) (hN : X.N.Nodup) (hi : X.N[i]? = some n) (hln : X.env.kindOf n = some .local) (hij : i ≠ j)
    (hs : X.stack = X.env :: X.outer := by rfl) (hf : X.env.frame = some X.env.locals := by rfl) (hex : X.ex = [] := by rfl) :
    PX X W (.Try body [.ExceptHandler (some (.Name x np)) (some n) [sv] pos'] [] [] pos) (dTry ml i j tb) :=
  psImp (ps_tryKeep (tb := fun W => liftX X.K W tb) hs hf hex hN hi hln hc tk hb hsv) fun D σ H ⟨F, ds, ms, E, R, S, h, n1, r1, k1, q1, x1⟩ =>
    ⟨F, ds, ms, _, R, S, h, n1, r1, k1, q1, fun c ns xs ds1 m1 cv d ws σ1 F1 H1 h1 R1 s1 S1 hn hx hd => by
      have h1' : (match ml.lookup c with
        | some true => E.nx ((setSlot ds1 j (.exc c ns xs)).set i none) m1
        | some false => E.ex c ns xs ds1 m1
        | none => False) := h1
      cases e : ml.lookup c with
      | none => rw [e] at h1'; exact h1'.elim
      | some b =>
        rw [e] at h1'
        refine ⟨b, hml c b cv e hn, fun hb1 a na => ?_, fun hb1 => ?_⟩
        · subst hb1
          refine n1 _ m1 _ (upd F1 a (ExH cv d a)) _ h1' (R1.new na) (s1.trans (Stp.new R1 na)) ?_
          rw [List.set_comm _ _ hij, List.set_set]
          have sb : Sub F1 (upd F1 a (ExH cv d a)) := Sub.new (R1.sub.none na)
          exact Sl.off i (Sl.set (.exc hn upd_same (hx.mono sb) (hd.mono sb)) j (S1.mono sb))
        · subst hb1
          exact x1 c ns xs ds1 m1 cv d ws σ1 F1 H1 h1' R1 s1 S1 hn hx hd⟩
theorem pds_try (hc : Names X x cl) (hml : ∀ c b cv, ml.lookup c = some b → PySem.W.nsIn X.K mainGlobals c = some (some cv) → PySem.W.exmOne X.K cv cl = some b)
    (hb : ∀ (W : WX) (q : List (Addr × Obj)) (xe : Value → Shared → Prop), Takes (X.tr q xe) W → PassesOwn (model X.prog X.w) X.A X.env xe → PXs (X.tr q xe) W body tb)
    (hsv : ∀ (a : Addr) (q : List (Addr × Obj)), PSs (X.suite a q) [sv] (tAsg (tVar i) (gName j))) (hN : X.N.Nodup) (hi : X.N[i]? = some n) (hln : X.env.kindOf n = some .local) (hij : i ≠ j)
    (hs : X.stack = X.env :: X.outer := by rfl) (hf : X.env.frame = some X.env.locals := by rfl) (hex : X.ex = [] := by rfl) :
    PDS X (.Try body [.ExceptHandler (some (.Name x np)) (some n) [sv] pos'] [] [] pos) (dTry0 ml i j tb) :=
  psImp (px_try hc hml takes0 hb hsv hN hi hln hij hs hf hex) fun D σ H ⟨F, ds, ms, E, R, S, h, n1, r1, k1, q1⟩ => ⟨F, ds, ms, _, R, S, h, n1, r1, k1, q1, fun _ _ _ _ _ _ _ _ _ _ _ z => z.elim⟩
end

/-! ### isinstance of a caught exception -/
def dIsX (ml : List (Str × Bool)) (de : DE) : DE := fun ds ms P => de ds ms fun d m => match d with
  | .exc c [] _ => (match ml.lookup c with
    | some b => P (.bl b) m
    | none => False)
  | _ => False
def rIsX (K : PySem.W.Frag) : List V → Hp → VK → Prop := fun xs H Q => ∃ (a C : Addr) (c : V) (cw : Value) (b : Bool), xs = [.ref a, c] ∧ H a = some (ExH (.ref C) none a) ∧ ExcC K C ∧ (∀ u, RelV c u → u = cw) ∧ PySem.W.kitOne K (.ref C) cw = some b ∧ Q (.bl b) H
theorem call_isX {X : Cx} : CallR X (.builtin "isinstance") (rIsX X.K) := by
  intro pins s σ H xs us Q I r h
  obtain ⟨a, C, c, cw, b, rfl, ha, hC, hcw, e, q⟩ := h
  match us, r with
  | [_, u], .cons (.refl _) (.cons rt .nil) =>
    cases hcw u rt
    obtain ⟨⟨oe, fv, ho, hz, hd⟩, _, _⟩ := I.hok a _ ha
    have J : PySem.W.InstAt s.heap a oe C none := by
      obtain ⟨oc, od, oda, osl⟩ := oe
      obtain ⟨h1, h2⟩ := hz
      dsimp only at h1 h2 hd
      subst h1 h2 hd
      exact ⟨ho, rfl, rfl, trivial⟩
    exact PySem.W.kia_one (PySem.W.handS_kitx_exc hC.hg hC.hk hC.hs hC.hd hC.ha hC.hn hC.ht hC.hm) I.kIn J e (fun z => nomatch z) fun tk => ⟨.bl b, H, I.kept (t' := tk) fun _ _ z => z, rfl, q⟩
theorem pd_isX {X : Cx} {e : Expr} {de : DE} {x : Str} {p p2 pos : Pos} {T : String} {ml : List (Str × Bool)} (hml : ∀ c b cv, ml.lookup c = some b → PySem.W.nsIn X.K mainGlobals c = some (some cv) → ∃ C, cv = .ref C ∧ ExcC X.K C ∧ PySem.W.kitOne X.K (.ref C) (.type T) = some b)
    (hg : Gl X "isinstance") (hm : X.mg "isinstance" = none) (hg2 : Gl X x) (hm2 : X.mg x = none) (hv : bootBuiltins x = some (.type T)) (hn : x ≠ "__name__") (hd : (x == ("__debug__" : Str)) = false)
    (h : PD X e de) (he : starEach [e, .Name x p2] X.env = (false, eval e X.env) :: starEach [.Name x p2] X.env := by rfl) (hpl : (backTo pos (starEach [.Name x p2] X.env)).any (·.1) = false := by rfl) :
    PD X (.Call (.Name "isinstance" p) [e, .Name x p2] [] pos) (dIsX ml de) :=
  peImp (pe_callB call_isX hg hm (by decide +kernel) (pa_cons h (pa_cons (pe_bltn (v := .ty T) hg2 hm2 hv rfl hn hd) pa_nil) he) (by decide) (by decide) he hpl) fun σ H Q ⟨F, ds, ms, P, R, S, h1, h2⟩ =>
    ⟨F, ds, ms, _, R, S, h1, fun d m v F1 H1 p1 R1 s1 r1 => by
      match d, p1, r1 with
      | .exc c [] ys, p1, .exc (a := a) h0 ha hx hs =>
        cases e1 : ml.lookup c with
        | none => simp only [e1] at p1
        | some b =>
          simp only [e1] at p1
          obtain ⟨C, rfl, hC, hk⟩ := hml c b _ e1 h0
          rcases hx with ⟨rfl, _, _⟩ | ⟨_, _, _, _, z⟩
          · exact ⟨a, C, .ty T, .type T, b, rfl, R1.sub _ _ ha, hC, fun u hu => hu, hk, h2 _ m _ F1 H1 p1 R1 s1 (.bl _)⟩
          · exact absurd rfl z⟩

/-! ### what the top says of an own class of exceptions without an __init__ -/
structure ExF (K : PySem.W.Frag) (c : Str) (C : Addr) (bmB : List Value) (newId : String) : Prop where
  ns : PySem.W.nsIn K mainGlobals c = some (some (.ref C))
  ex : PySem.W.excIn K C bmB newId = true
  kp : PySem.W.keepIn K (.ref C) = true
  sb : PySem.W.subIn K (.ref C) (.type "BaseException") = some true
  ty : PySem.W.typeIn K (.ref C) = some (.type "type")
  cc : ExcC K C
theorem px_raiseF {X : Cx} {W : WX} {C : Addr} {bmB : List Value} {B newId initId : String} {x m : Str} {j : Nat} {p p2 pos pos' : Pos} (hc : X.calm = true) (tk : Takes X W) (F : ExcBaseFacts B newId initId bmB) (E : ExF X.K x C bmB newId) (gC : X.mg x = some (.ref C)) (hg : Gl X x)
    (hdb : (x == ("__debug__" : Str)) = false := by decide) : PX X W (.Raise (some (.Call (.Name x p) [.Constant (.str m) j p2] [] pos)) none pos') (dRaise x) :=
  px_raise hc tk F E.ex gC E.kp (raises_own E.sb E.ty) hg E.ns hdb
abbrev MlE (K : PySem.W.Frag) (cl : Value) (ml : List (Str × Bool)) : Prop := ∀ c b cv, ml.lookup c = some b → PySem.W.nsIn K mainGlobals c = some (some cv) → PySem.W.exmOne K cv cl = some b
abbrev MlI (K : PySem.W.Frag) (T : String) (ml : List (Str × Bool)) : Prop := ∀ c b cv, ml.lookup c = some b → PySem.W.nsIn K mainGlobals c = some (some cv) → ∃ C, cv = .ref C ∧ ExcC K C ∧ PySem.W.kitOne K (.ref C) (.type T) = some b
theorem mlE_nil {K : PySem.W.Frag} {cl : Value} : MlE K cl [] := fun c b cv h _ => by cases h
theorem mlI_nil {K : PySem.W.Frag} {T : String} : MlI K T [] := fun c b cv h _ => by cases h
theorem ml_split {c c1 : Str} {b b1 : Bool} {ml : List (Str × Bool)} (h : ((c1, b1) :: ml).lookup c = some b) : (c = c1 ∧ b = b1) ∨ ml.lookup c = some b := by
  rw [List.lookup_cons] at h
  split at h
  · rename_i e
    cases h
    exact .inl ⟨beq_iff_eq.mp e, rfl⟩
  · exact .inr h
theorem mlE_cons {K : PySem.W.Frag} {c1 : Str} {b1 : Bool} {C C2 : Addr} {bmB bmB2 : List Value} {newId newId2 : String} {c2 : Str} {ml : List (Str × Bool)} (E1 : ExF K c1 C bmB newId) (E2 : ExF K c2 C2 bmB2 newId2) (h : PySem.W.subIn K (.ref C) (.ref C2) = some b1) (r : MlE K (.ref C2) ml) : MlE K (.ref C2) ((c1, b1) :: ml) := fun c b cv hl hn => by
  rcases ml_split hl with ⟨rfl, rfl⟩ | hl
  · rw [E1.ns] at hn
    cases hn
    exact PySem.W.exm_ref E2.sb E2.cc.hd E2.ty h
  · exact r c b cv hl hn
theorem mlI_cons {K : PySem.W.Frag} {c1 : Str} {b1 : Bool} {C : Addr} {bmB : List Value} {newId T : String} {ml : List (Str × Bool)} (E1 : ExF K c1 C bmB newId) (h : PySem.W.kitOne K (.ref C) (.type T) = some b1) (r : MlI K T ml) : MlI K T ((c1, b1) :: ml) := fun c b cv hl hn => by
  rcases ml_split hl with ⟨rfl, rfl⟩ | hl
  · rw [E1.ns] at hn
    cases hn
    exact ⟨C, rfl, E1.cc, h⟩
  · exact r c b cv hl hn
end DL

namespace DL
open PySem PySem.Spec PyProof.Rows L2

/-! ### is, is not: truths and None -/
def nonD : D → Option Bool
  | .non => some true
  | .opq _ => none
  | _ => some false
def fIsB (neg : Bool) : OF := fun x y ms P => match y with
  | .bl b => (match x with
    | .bl a => P (.bl (Bool.xor neg (decide (a = b)))) ms
    | _ => False)
  | .non => (match nonD x with
    | some z => P (.bl (Bool.xor neg z)) ms
    | none => False)
  | _ => False
def fIs : OF := fIsB false
def fNotIs : OF := fIsB true
def rIsD (neg : Bool) : R2 := fun x y H Q => (∃ a b, x = .bl a ∧ y = .bl b ∧ Q (.bl (Bool.xor neg (decide (a = b)))) H) ∨ (y = .non ∧ Q (.bl (Bool.xor neg (decide (x = .non)))) H)
theorem op_isD {X : Cx} : OpR X (compareOp .Is) (rIsD false) := by
  intro pins s σ H x y v u Q I rx ry h
  rcases h with ⟨a, b, e1, e2, q⟩ | ⟨e, q⟩
  · exact op_is_bl pins s σ H x y v u Q I rx ry ⟨a, b, e1, e2, by simpa using q⟩
  · exact op_isN pins s σ H x y v u Q I rx ry ⟨e, by simpa using q⟩
theorem op_notIsD {X : Cx} : OpR X (compareOp .IsNot) (rIsD true) := by
  intro pins s σ H x y v u Q I rx ry h
  rcases h with ⟨a, b, e1, e2, q⟩ | ⟨e, q⟩
  · exact op_isnot_bl pins s σ H x y v u Q I rx ry ⟨a, b, e1, e2, by simpa using q⟩
  · exact op_notN pins s σ H x y v u Q I rx ry ⟨e, by simpa using q⟩
theorem nonD_ok {K : PySem.W.Frag} {F : Hp} {x : V} {d : D} {b : Bool} (r : DR K F x d) (h : nonD d = some b) : decide (x = .non) = b := by
  cases r <;> cases h <;> first | rfl | decide | simp
theorem opd_isB {K : PySem.W.Frag} {neg : Bool} : OpD K (rIsD neg) (fIsB neg) := fun F H ms x y dx dy P Q R rx ry h q => by
  cases ry with
  | bl b =>
    cases rx with
    | bl a => exact .inl ⟨a, b, rfl, rfl, q _ ms _ F H h R Stp.refl (.bl _)⟩
    | _ => exact False.elim h
  | non =>
    cases e : nonD dx with
    | none => unfold fIsB at h; simp only [e] at h
    | some z =>
      unfold fIsB at h
      simp only [e] at h
      refine .inr ⟨rfl, ?_⟩
      rw [nonD_ok rx e]
      exact q _ ms _ F H h R Stp.refl (.bl _)
  | _ => exact False.elim h
theorem opd_is {K : PySem.W.Frag} : OpD K (rIsD false) fIs := opd_isB
theorem opd_notIs {K : PySem.W.Frag} : OpD K (rIsD true) fNotIs := opd_isB

/-! ### in, not in: a list or a tuple of data -/
def InOk (x : D) (ys : List D) (neg : Bool) (ms : MS) (P : D → MS → Prop) : Prop := ∃ p ps, toPy x = some p ∧ toPys ys = some ps ∧ p.canLay0 = true ∧ p.depth ≤ 60 ∧ PyData.canLayAll0 ps = true ∧ P (.bl (Bool.xor neg (ps.any fun z => PyData.eqv z p))) ms
def fInB (neg : Bool) : OF := fun x y ms P => match y with
  | .lst ys => InOk x ys neg ms P
  | .tup ys => InOk x ys neg ms P
  | _ => False
def fIn : OF := fInB false
def fNotIn : OF := fInB true
def rInF (K : PySem.W.Frag) (neg : Bool) : R2 := fun x y H Q => ∃ F dx dy ms P, Sub F H ∧ DR K F x dx ∧ DR K F y dy ∧ fInB neg dx dy ms P ∧ ∀ b, P (.bl b) ms → Q (.bl b) H
theorem op_inF {X : Cx} (hu : X.A.units + 64 < cLine) : OpR X (compareOp .In) (rInF X.K false) := by
  intro pins s σ H x y v u Q I rx ry h
  obtain ⟨F, dx, dy, ms, P, sb, hx, hy, h, q⟩ := h
  cases hy with
  | lst ha hs =>
    obtain ⟨p, ps, e1, e2, c1, c2, c3, h⟩ := h
    obtain ⟨as, r1⟩ := DR.reads I sb dx p x v hx e1 rx
    obtain ⟨bs, r2⟩ := DR.reads I sb (.lst _) (.list ps) _ u (.lst ha hs) (by unfold toPy; rw [e2]; rfl) ry
    exact SeqAt.in_list_reads r2 r1 c3 c1 (by omega) ⟨.bl _, H, I, rfl, q _ (by simpa using h)⟩
  | tup ha hs =>
    obtain ⟨p, ps, e1, e2, c1, c2, c3, h⟩ := h
    obtain ⟨as, r1⟩ := DR.reads I sb dx p x v hx e1 rx
    obtain ⟨bs, r2⟩ := DR.reads I sb (.tup _) (.tuple ps) _ u (.tup ha hs) (by unfold toPy; rw [e2]; rfl) ry
    exact SeqAt.in_tuple_reads r2 r1 c3 c1 (by omega) ⟨.bl _, H, I, rfl, q _ (by simpa using h)⟩
  | _ => exact False.elim h
theorem op_notInF {X : Cx} (hu : X.A.units + 64 < cLine) : OpR X (compareOp .NotIn) (rInF X.K true) := by
  intro pins s σ H x y v u Q I rx ry h
  obtain ⟨F, dx, dy, ms, P, sb, hx, hy, h, q⟩ := h
  cases hy with
  | lst ha hs =>
    obtain ⟨p, ps, e1, e2, c1, c2, c3, h⟩ := h
    obtain ⟨as, r1⟩ := DR.reads I sb dx p x v hx e1 rx
    obtain ⟨bs, r2⟩ := DR.reads I sb (.lst _) (.list ps) _ u (.lst ha hs) (by unfold toPy; rw [e2]; rfl) ry
    exact SeqAt.notIn_list_reads r2 r1 c3 c1 (by omega) ⟨.bl _, H, I, rfl, q _ (by simpa using h)⟩
  | tup ha hs =>
    obtain ⟨p, ps, e1, e2, c1, c2, c3, h⟩ := h
    obtain ⟨as, r1⟩ := DR.reads I sb dx p x v hx e1 rx
    obtain ⟨bs, r2⟩ := DR.reads I sb (.tup _) (.tuple ps) _ u (.tup ha hs) (by unfold toPy; rw [e2]; rfl) ry
    exact SeqAt.notIn_tuple_reads r2 r1 c3 c1 (by omega) ⟨.bl _, H, I, rfl, q _ (by simpa using h)⟩
  | _ => exact False.elim h
theorem opd_inB {K : PySem.W.Frag} {neg : Bool} : OpD K (rInF K neg) (fInB neg) := fun F H ms x y dx dy P Q R rx ry h q =>
  ⟨F, dx, dy, ms, P, R.sub, rx, ry, h, fun b z => q _ ms _ F H z R Stp.refl (.bl _)⟩
theorem opd_in {K : PySem.W.Frag} : OpD K (rInF K false) fIn := opd_inB
theorem opd_notIn {K : PySem.W.Frag} : OpD K (rInF K true) fNotIn := opd_inB

/-! ### {} -/
def dEdic : DE := fun _ ms P => P .edic ms
theorem pd_dict0 {X : Cx} {pos : Pos} : PD X (.Dict [] [] pos) dEdic := peImp pe_dnewK fun σ H Q ⟨F, ds, ms, P, R, S, h1, h2⟩ p hp => h2 _ ms _ (upd F p (.dK [])) _ h1 (R.new hp) (Stp.new R hp) (.edic upd_same)
end DL

namespace DL
open PySem PySem.Spec PyProof.Rows L2

/-! ### return f(..), x = f(..), where f may raise -/
def dRetX (n : Nat) (is : List Nat) (fx : FX) (aa : DA) : DTS := fun E ds ms => aa ds ms fun xs m => xs.length = n ∧ fx (pick is xs) m E.rt fun c ns ys m' => E.ex c ns ys ds m'
def dSetX (i n : Nat) (is : List Nat) (fx : FX) (aa : DA) : DTS := fun E ds ms => aa ds ms fun xs m => xs.length = n ∧ fx (pick is xs) m (fun d m' => E.nx (setSlot ds i d) m') fun c ns ys m' => E.ex c ns ys ds m'
section
variable {X : Cx} {W : WX} {k n i : Nat} {f : Addr} {fd : FuncData} {ps : List Str} {is : List Nat} {fx : FX} {x y : Str} {p pos kpos py : Pos} {e : Expr} {es : List Expr} {aa : DA}
theorem px_ret (tk : Takes X W) (F : FnX X.prog X.w X.K X.mg X.base k f fd ps (spX X.K fx)) (hr : RoomG k X.A) (hg : Gl X x) (hm : X.mg x = some (.ref f)) (hk : PySem.W.keepIn X.K (.ref f) = true) (hb : Bnd X.K fd ps n [] is)
    (ha : PDA X (e :: es) aa) (hdb : (x == ("__debug__" : Str)) = false := by decide)
    (he : starEach (e :: es) X.env = (false, eval e X.env) :: starEach es X.env := by rfl)
    (hpl : (backTo pos (starEach es X.env)).any (·.1) = false := by rfl) : PX X W (.Return (some (.Call (.Name x p) (e :: es) [] pos)) kpos) (dRetX n is fx aa) :=
  psImp (ps_ret (pe_callX tk F hr hg hm hk hb ha hdb he hpl)) fun D σ H ⟨F0, ds, ms, E, R, S, h, n1, r1, k1, q1, x1⟩ =>
    ⟨F0, ds, ms, _, R, S, h, fun xs m vs F1 H1 p1 R1 s1 rs => ⟨rs.length.trans p1.1, F1, _, m, _, _, R1, pick_drs rs is, p1.2,
      fun d m2 v F2 H2 h2 R2 s2 r2 => r1 d m2 v F2 H2 h2 R2 (s1.trans s2) r2,
      fun c ns ys m2 cv d ws F2 H2 h2 R2 s2 hn hx hd => x1 c ns ys ds m2 cv d ws σ F2 H2 h2 R2 (s1.trans s2) (S.mono (s1.trans s2).sub) hn hx hd⟩⟩
theorem px_set (tk : Takes X W) (F : FnX X.prog X.w X.K X.mg X.base k f fd ps (spX X.K fx)) (hr : RoomG k X.A) (hg : Gl X x) (hm : X.mg x = some (.ref f)) (hk : PySem.W.keepIn X.K (.ref f) = true) (hb : Bnd X.K fd ps n [] is)
    (ha : PDA X (e :: es) aa) (hN : X.N.Nodup) (hi : X.N[i]? = some y) (hy : Loc X.env.scope y) (hdb : (x == ("__debug__" : Str)) = false := by decide)
    (he : starEach (e :: es) X.env = (false, eval e X.env) :: starEach es X.env := by rfl)
    (hpl : (backTo pos (starEach es X.env)).any (·.1) = false := by rfl)
    (hs : swapsWith (.Call (.Name x p) (e :: es) [] pos) (some (.Name y py)) kpos.line X.env = pure false := by rfl)
    (hf : X.fn y = true ∨ X.env.scope.names.lookup y = some .local := by first | exact .inl rfl | exact .inr rfl | assumption) : PX X W (.Assign [.Name y py] (.Call (.Name x p) (e :: es) [] pos) kpos) (dSetX i n is fx aa) :=
  psImp (ps_set hN hi hy (pe_callX tk F hr hg hm hk hb ha hdb he hpl) hs hf) fun D σ H ⟨F0, ds, ms, E, R, S, h, n1, r1, k1, q1, x1⟩ =>
    ⟨F0, ds, ms, _, R, S, h, fun xs m vs F1 H1 p1 R1 s1 rs => ⟨rs.length.trans p1.1, F1, _, m, _, _, R1, pick_drs rs is, p1.2,
      fun d m2 v F2 H2 h2 R2 s2 r2 => n1 _ m2 _ F2 H2 h2 R2 (s1.trans s2) (Sl.set r2 i (S.mono (s1.trans s2).sub)),
      fun c ns ys m2 cv d ws F2 H2 h2 R2 s2 hn hx hd => x1 c ns ys ds m2 cv d ws σ F2 H2 h2 R2 (s1.trans s2) (S.mono (s1.trans s2).sub) hn hx hd⟩⟩
end

/-! ### isinstance of a caught exception (with its fields, or without), any class -/
def dIsE (ml : List (Str × Bool)) (de : DE) : DE := fun ds ms P => de ds ms fun d m => match d with
  | .exc c _ _ => (match ml.lookup c with
    | some b => P (.bl b) m
    | none => False)
  | _ => False
def rIsE2 (K : PySem.W.Frag) : List V → Hp → VK → Prop := fun xs H Q => ∃ (a C : Addr) (d : Option Addr) (fs : List (Str × V)) (c : V) (cw : Value) (b : Bool), xs = [.ref a, c] ∧ H a = some (ExH (.ref C) d a) ∧ (d = none ∨ ∃ dx, d = some dx ∧ H dx = some (.xd fs)) ∧ ExcC K C ∧ (∀ u, RelV c u → u = cw) ∧ PySem.W.kitOne K (.ref C) cw = some b ∧ Q (.bl b) H
theorem call_isE2 {X : Cx} : CallR X (.builtin "isinstance") (rIsE2 X.K) := by
  intro pins s σ H xs us Q I r h
  obtain ⟨a, C, d, fs, c, cw, b, rfl, ha, hd, hC, hcw, e, q⟩ := h
  match us, r with
  | [_, u], .cons (.refl _) (.cons rt .nil) =>
    have eu := hcw u rt
    subst eu
    obtain ⟨⟨oe, fv, ho, hz, hf⟩, _, _⟩ := I.hok a _ ha
    have go : ∀ od, PySem.W.InstAt s.heap a oe C od → wpAny (model X.prog X.w) X.A (call (.builtin "isinstance") [.ref a, u]) (EP X pins σ Q) X.xe s := fun od J => by
      have hcl : (PySem.W.clsIn X.K C).isSome = true := by
        obtain ⟨cd, hc, _⟩ := PySem.W.any_some hC.hd
        rw [hc]; rfl
      exact PySem.W.kia_one (PySem.W.kitx_exc hcl hC.hg hC.hk hC.hs hC.ha hC.hn hC.ht hC.hm) I.kIn J e (fun z => nomatch z) fun tk => ⟨.bl b, H, I.kept (t' := tk) fun _ _ z => z, rfl, q⟩
    have nc : PySem.W.notCls oe = true := by unfold PySem.W.notCls; rw [hf]
    rcases hd with rfl | ⟨dx, rfl, hx⟩
    · exact go none ⟨ho, hz.1, nc, by rw [hz.2]; trivial⟩
    · obtain ⟨mA, hns, _⟩ := (show ObjOk X.prog X.w H s.heap dx (.xd fs) from I.hok dx _ hx)
      obtain ⟨od, hod, _⟩ := lookIn_ns hns
      exact go (some od) ⟨ho, hz.1, nc, by rw [hz.2]; exact hod⟩
/-- of each class that may come: it is an own one, and isinstance answers so -/
abbrev MlK (K : PySem.W.Frag) (cw : Value) (ml : List (Str × Bool)) : Prop := ∀ c b cv, ml.lookup c = some b → PySem.W.nsIn K mainGlobals c = some (some cv) → ∃ C, cv = .ref C ∧ ExcC K C ∧ PySem.W.kitOne K (.ref C) cw = some b
theorem mlK_nil {K : PySem.W.Frag} {cw : Value} : MlK K cw [] := fun c b cv h _ => by cases h
theorem mlK_cons {K : PySem.W.Frag} {c1 : Str} {b1 : Bool} {C : Addr} {cw : Value} {ml : List (Str × Bool)} (ns : PySem.W.nsIn K mainGlobals c1 = some (some (.ref C))) (cc : ExcC K C) (h : PySem.W.kitOne K (.ref C) cw = some b1) (r : MlK K cw ml) : MlK K cw ((c1, b1) :: ml) := fun c b cv hl hn => by
  rcases ml_split hl with ⟨rfl, rfl⟩ | hl
  · rw [ns] at hn
    cases hn
    exact ⟨C, rfl, cc, h⟩
  · exact r c b cv hl hn
theorem pd_isE {X : Cx} {e : Expr} {de : DE} {x : Str} {p p2 pos : Pos} {cw : Value} {v2 : V} {ml : List (Str × Bool)} (hml : MlK X.K cw ml) (hr : ∀ u, RelV v2 u → u = cw) (h2 : PE X (.Name x p2) (tC v2))
    (hg : Gl X "isinstance") (hm : X.mg "isinstance" = none)
    (h : PD X e de) (he : starEach [e, .Name x p2] X.env = (false, eval e X.env) :: starEach [.Name x p2] X.env := by rfl) (hpl : (backTo pos (starEach [.Name x p2] X.env)).any (·.1) = false := by rfl) :
    PD X (.Call (.Name "isinstance" p) [e, .Name x p2] [] pos) (dIsE ml de) :=
  peImp (pe_callB call_isE2 hg hm (by decide +kernel) (pa_cons h (pa_cons h2 pa_nil) he) (by decide) (by decide) he hpl) fun σ H Q ⟨F, ds, ms, P, R, S, h1, h2⟩ =>
    ⟨F, ds, ms, _, R, S, h1, fun d m v F1 H1 p1 R1 s1 r1 => by
      match d, p1, r1 with
      | .exc c ns ys, p1, .exc (a := a) (d := dd) (vs := vs) h0 ha hx hs =>
        cases e1 : ml.lookup c with
        | none => simp only [e1] at p1
        | some b =>
          simp only [e1] at p1
          obtain ⟨C, rfl, hC, hk⟩ := hml c b _ e1 h0
          refine ⟨a, C, dd, ns.zip vs, v2, cw, b, rfl, R1.sub _ _ ha, ?_, hC, hr, hk, h2 _ m _ F1 H1 p1 R1 s1 (.bl _)⟩
          rcases hx with ⟨z, _, _⟩ | ⟨dx, z, z2, _⟩
          · exact .inl z
          · exact .inr ⟨dx, z, R1.sub _ _ z2⟩⟩
/-! ### kept.f -/
theorem zip_look {K : PySem.W.Frag} {F : Hp} {f : Str} {y : D} : ∀ {ns : List Str} {vs : List V} {xs : List D}, DRs K F vs xs → (ns.zip xs).lookup f = some y → ∃ v, (ns.zip vs).lookup f = some v ∧ DR K F v y
  | [], _, _, _, h => by cases h
  | _ :: _, _, _, .nil, h => by cases h
  | n :: ns, _, _, .cons (v := v) (vs := vs) (d := d) (ds := ds) r t, h => by
    rw [List.zip_cons_cons, List.lookup_cons] at h ⊢
    cases e : f == n with
    | true => rw [e] at h; cases h; exact ⟨v, rfl, r⟩
    | false => rw [e] at h; exact zip_look t h
def dFld (ml : List (Str × Bool)) (f : Str) (de : DE) : DE := fun ds ms P => de ds ms fun d m => match d with
  | .exc c ns xs => (ml.lookup c).isSome = true ∧ ∃ y, (ns.zip xs).lookup f = some y ∧ P y m
  | _ => False
abbrev MlF (K : PySem.W.Frag) (f : Str) (ml : List (Str × Bool)) : Prop := ∀ c b cv, ml.lookup c = some b → PySem.W.nsIn K mainGlobals c = some (some cv) → ∃ C, cv = .ref C ∧ ExcC K C ∧ PySem.W.findIn K (.ref C) f = some none
theorem mlF_nil {K : PySem.W.Frag} {f : Str} : MlF K f [] := fun c b cv h _ => by cases h
theorem mlF_cons {K : PySem.W.Frag} {c1 f : Str} {b1 : Bool} {C : Addr} {ml : List (Str × Bool)} (ns : PySem.W.nsIn K mainGlobals c1 = some (some (.ref C))) (cc : ExcC K C) (h : PySem.W.findIn K (.ref C) f = some none) (r : MlF K f ml) : MlF K f ((c1, b1) :: ml) := fun c b cv hl hn => by
  rcases ml_split hl with ⟨rfl, rfl⟩ | hl
  · rw [ns] at hn
    cases hn
    exact ⟨C, rfl, cc, h⟩
  · exact r c b cv hl hn
def tFld (K : PySem.W.Frag) (f : Str) (te : TE) : TE := fun σ H Q => te σ H fun x H1 => ∃ (a C dd : Addr) (fs : List (Str × V)) (v : V), x = .ref a ∧ H1 a = some (ExH (.ref C) (some dd) a) ∧ H1 dd = some (.xd fs) ∧ fs.lookup f = some v ∧ ExcC K C ∧ PySem.W.findIn K (.ref C) f = some none ∧ Q v H1
theorem pe_fld {X : Cx} {e : Expr} {te : TE} {pos : Pos} {f : Str} (he : PE X e te) (hb : attributeBase e f X.env (eval e X.env) = eval e X.env := by rfl) : PE X (.Attribute e f pos) (tFld X.K f te) := by
  refine ⟨fun pins s σ H Q I h => attr_of hb (thn (he.run pins s σ H _ I h) ?_)⟩
  rintro u s1 ⟨x, H1, I1, rx, a, C, dd, fs, v, rfl, ha, hx, hl, hC, hno, q⟩
  obtain rfl : u = Value.ref a := rx
  obtain ⟨⟨oe, fv, ho, hz, hf⟩, _, _⟩ := I1.hok a _ ha
  obtain ⟨mA, hns, hr⟩ := (show ObjOk X.prog X.w H1 s1.heap dd (.xd fs) from I1.hok dd _ hx)
  obtain ⟨od, hod, hlk⟩ := lookIn_ns hns
  obtain ⟨w, hw, rw'⟩ := RelO.some_of (v := v) (o := mA f) (by rw [← hl]; exact hr f)
  have J : PySem.W.InstAt s1.heap a oe C (some od) := ⟨ho, hz.1, by unfold PySem.W.notCls; rw [hf], by rw [hz.2]; exact hod⟩
  exact HandSPX.exc_get I1.kIn J hC.hg hC.hk hC.hs (PySem.W.findObj_own hC.hd hno rfl (by rw [hlk, hw])) (handed_of rw') ⟨v, H1, I1.tok _, rw', q⟩
theorem pd_fld {X : Cx} {e : Expr} {de : DE} {pos : Pos} {f : Str} {ml : List (Str × Bool)} (hml : MlF X.K f ml) (h : PD X e de) (hb : attributeBase e f X.env (eval e X.env) = eval e X.env := by rfl) : PD X (.Attribute e f pos) (dFld ml f de) :=
  peImp (pe_fld h hb) fun σ H Q ⟨F, ds, ms, P, R, S, h1, h2⟩ =>
    ⟨F, ds, ms, _, R, S, h1, fun d m v F1 H1 p1 R1 s1 r1 => by
      match d, p1, r1 with
      | .exc c ns ys, ⟨q1, y, q2, q3⟩, .exc (a := a) (d := dd) (vs := vs) h0 ha hx hs =>
        obtain ⟨b, hb1⟩ := Option.isSome_iff_exists.mp q1
        obtain ⟨C, rfl, hC, hk⟩ := hml c b _ hb1 h0
        obtain ⟨z, hz, rz⟩ := zip_look hs q2
        rcases hx with ⟨_, rfl, _⟩ | ⟨dx, rfl, z2, _⟩
        · cases q2
        · exact ⟨a, C, dx, _, z, rfl, R1.sub _ _ ha, R1.sub _ _ z2, hz, hC, hk, h2 _ m _ F1 H1 q3 R1 s1 rz⟩⟩
end DL

namespace DL
open PySem PySem.Spec PyProof.Rows L2

/-! ### what a built-in class of exceptions gives to an own one over it -/
section
open PySem.W PySem.Calls
structure XB (newId initId : String) (bmB : List Value) : Prop where
  made : ∀ {prog : Program} {w : World} {A : Around} {R : Result → Shared → Prop} {h : Heap} {g : Array GenState} {d : Drawn} {t : Nat} {os : OsState} {nm q : Str} {C N : Addr} {bs bm : List Value} {hdct : Bool} {sn : List Str} {sub : List Value} {ab : Bool} {col : Option Bool} {dd : Option Addr} {k0 k1 k2 k3 k5 : Option Value} {rest : List Value} {fI : Addr}, (∀ X : String, bm.contains (.type X) = bmB.contains (.type X)) → h.get? C = some (excClassObj nm q C N bs bm hdct sn sub ab col dd k0 k1 k2 k3 k5 newId) → PySem.W.Looks (model prog w) h (typeLookup (.ref C) "__init__") (some (.ref fI)) → (∀ self, PySem.W.Looks (model prog w) h (bindSpecial (.ref fI) self) (.ref fI, [self])) → rest.length ≤ sizeLine →
    codeAny (model prog w) (A.under (.builtin "type.__call__" ⟨.ref C :: rest, []⟩)) (.call (.ref fI) ⟨.ref (h.objs.size + 1) :: rest, []⟩) (PySem.W.InitBack (h.objs.size + 1) R) ⟨(h.push (PySem.W.kdv_tup rest)).push (PySem.PX.excO C h.objs.size), g, d, t, os⟩ → codeAny (model prog w) A (.call (.ref C) ⟨rest, []⟩) R ⟨h, g, d, t, os⟩
  bound : ∀ {M : Model} {A : Around} {E : Value → Shared → Prop} {Q : Unit → Shared → Prop} {h : Heap} {g : Array GenState} {d : Drawn} {t : Nat} {os : OsState} {nm q : Str} {C N e : Addr} {oe : Obj} {bs bm : List Value} {hdct : Bool} {sn : List Str} {sub : List Value} {ab : Bool} {col : Option Bool} {dd : Option Addr} {k0 k1 k2 k3 k5 : Option Value} {rest : List Value}, h.get? C = some (excClassObj nm q C N bs bm hdct sn sub ab col dd k0 k1 k2 k3 k5 newId) → h.get? e = some oe → oe.cls = .ref C → Q () ⟨h, g, d, t, os⟩ → wpAny M A (checkBoundCall initId ⟨.ref e :: rest, []⟩) Q E ⟨h, g, d, t, os⟩
  plain : plainId initId = true
  entry : entryFor table initId = some Builtin.«BaseException.__init__»
theorem xb_of {B newId initId : String} {bmB : List Value} (F : ExcBaseFacts B newId initId bmB) : XB newId initId bmB := ⟨fun hT hC hi hb hr hq => PySem.PX.call_own F hT hC hi hb hr hq, fun hC he hc hq => check_bound_init F.toExcCallFacts hC he hc hq, F.init.plain, F.initEntry⟩
end
/-! ### an own class of exceptions whose __init__ says super().__init__('..') and keeps its arguments -/
section
open PySem.W PySem.Calls
variable {prog : Program} {w : World} {A : Around} {E : Value → Shared → Prop} {K : Frag} {C x : Addr} {B newId initId : String} {bmB : List Value} {hp : Heap} {g : Array GenState} {d : Drawn} {t : Nat} {os : OsState} {fv : Array Value} {name : Str} {v : Value} {Q : Unit → Shared → Prop}
theorem xst_new {t1 : Addr} (SF : StoreFacts B bmB "object.__setattr__" "object") (X : K.In hp) (hx : hp.get? x = some (excObj C t1 none .none)) (hs : findIn K (.ref C) "__setattr__" = some (some (.builtin "object.__setattr__")))
    (ho : excOver K C bmB = true) (ht : takerIn K C name = some none) (hh : hasDictIn K C = true)
    (hq : ∀ h' tk' dx, (∀ b o, b ≠ x → hp.get? b = some o → h'.get? b = some o) → hp.objs.size ≤ dx → dx ≠ x → h'.get? x = some (excObj C t1 (some dx) .none) →
      h'.Ns1 dx (fun y => if y = name then some v else none) → Q () ⟨h', g, d, tk', os⟩) : wpAny (model prog w) A (setAttr (.ref x) name v) Q E ⟨hp, g, d, t, os⟩ := by
  refine set_plain (od := none) X ⟨hx, rfl, rfl, trivial⟩ hs ?_
  refine osa_openX (od := none) SF X ⟨hx, rfl, rfl, trivial⟩ ho ht fun b => ?_
  obtain ⟨cd, hc, hd'⟩ := any_some hh
  have hxs : x ≠ hp.objs.size := Nat.ne_of_lt (Heap.lt_size hx)
  refine wpAny_bind (wpAny_pure (wpAny_bind (instanceDict_exc hx (looks_clsIn X hc) hd' ?_)))
  refine HandSPX.store_in_new ?_ ?_
  · exact ⟨_, #[], _, (Heap.get?_update_ne _ _ _ _ hxs.symm).trans (Heap.get?_push_at rfl rfl), rfl, fun e he => absurd he (by simp), fun _ => rfl⟩
  · intro h' tk' hn' hsm
    have hx₁ : (hp.push (dictOf [] 0)).get? x = some (excObj C t1 none .none) := Heap.get?_push_of_some _ hx
    refine hq h' tk' hp.objs.size (fun b o hb ho => ?_) (Nat.le_refl _) hxs.symm ?_ hn'
    · exact (hsm.2 b (Nat.ne_of_lt (Heap.lt_size ho))).trans ((Heap.get?_update_ne _ _ _ _ hb).trans (Heap.get?_push_of_some _ ho))
    · exact (hsm.2 x hxs).trans (Heap.get?_update_self _ hx₁ rfl)
theorem xst_old {t1 dx : Addr} {m0 : Str → Option Value} {nl : List Str} (SF : StoreFacts B bmB "object.__setattr__" "object") (X : K.In hp) (hx : hp.get? x = some (excObj C t1 (some dx) .none)) (hns : hp.Ns1 dx m0) (hw : Within m0 nl) (hz : nl.length ≤ 1000) (hs : findIn K (.ref C) "__setattr__" = some (some (.builtin "object.__setattr__")))
    (ho : excOver K C bmB = true) (ht : takerIn K C name = some none) (hh : hasDictIn K C = true)
    (hq : ∀ h' tk', (∀ b o, b ≠ dx → hp.get? b = some o → h'.get? b = some o) → h'.Ns1 dx (fun y => if y = name then some v else m0 y) → Q () ⟨h', g, d, tk', os⟩) : wpAny (model prog w) A (setAttr (.ref x) name v) Q E ⟨hp, g, d, t, os⟩ := by
  obtain ⟨oD, esD, epD, hoD, hdD, _⟩ := hns.count hw
  refine set_plain (od := some oD) X ⟨hx, rfl, rfl, hoD⟩ hs ?_
  refine osa_openX (od := some oD) SF X ⟨hx, rfl, rfl, hoD⟩ ho ht fun b => ?_
  obtain ⟨cd, hc, hd'⟩ := any_some hh
  refine wpAny_bind (wpAny_pure (wpAny_bind (wpAny_bind (wpAny_loadPart hx (wpAny_bind ((looks_clsIn X hc).here ?_))))))
  rw [hd']
  refine wpAny_pure (a := some dx) ?_
  refine OEX.store_in_old hns hw hz ?_
  intro h' tk' hn' hsm
  exact hq h' tk' (fun b o hb ho => (hsm.2 b hb).trans ho) hn'
end

section
open PySem.W PySem.Calls
variable {prog : Program} {w : World} {A : Around} {E : Value → Shared → Prop} {K : Frag} {C x u : Addr} {B newId initId : String} {bmB : List Value} {hp : Heap} {g : Array GenState} {d : Drawn} {t : Nat} {os : OsState}
/-- the bound __init__ of the built-in class, called -/
theorem xin_call {t0 : Addr} {rest : List Value} {Q : Value → Shared → Prop} (FB : XB newId initId bmB) (q : excInitIn K C bmB newId = true) (X : K.In hp) (hu : hp.get? u = some (kxs_mw initId x)) (he : hp.get? x = some (excObj C t0 none .none)) (hz : rest.length ≤ sizeLine)
    (fin : ∀ h' t1, (∀ b o, b ≠ x → hp.get? b = some o → h'.get? b = some o) → h'.get? x = some (excObj C t1 none .none) → Q .none ⟨h', g, d, t, os⟩) : wpAny (model prog w) A (call (.ref u) rest) Q E ⟨hp, g, d, t, os⟩ := by
  obtain ⟨nm, N', qn, bs, bm, hdct, sn, sub, ab, col, dd, k0, k1, k2, k3, k5, hC, hT⟩ := excInit_of X q
  refine wpAny_call (codeAny_of_tree ?_)
  show wpAny _ A.in1 (callAny (.ref u) ⟨rest, []⟩) _ _ _
  simp only [callAny]
  refine wpAny_bind (wpAny_load hu ?_)
  simp only [kxs_mw, show (Value.type "method-wrapper" == Value.type "method" || Value.type "method-wrapper" == Value.type "builtin_function_or_method" || Value.type "method-wrapper" == Value.type "method-wrapper") = true by decide, if_true]
  refine KFB.if_so (by decide) ?_
  refine wpAny_bind (FB.bound hC he rfl ?_)
  refine wpAny_bind (wpAny_pure (wpAny_pure ?_))
  refine ⟨plainId_quiet FB.plain _, codeAny_builtin FB.entry ?_⟩
  exact exc_init_tree (cls := .ref C) (t0 := t0) (dv := none) (c2 := .none) (c3 := .none) (b4 := .bool false) he hz fun h' k e' _ => fin h' _ k e'
end
abbrev supSt (m : Str) (j : Nat) (p0 p1 p2 p3 p4 p5 : Pos) : Stmt := .Expr (.Call (.Attribute (.Call (.Name "super" p0) [] [] p1) "__init__" p2) [.Constant (.str m) j p3] [] p4) p5
abbrev fldSt (f : Str) (q : Pos × Pos × Pos × Pos) : Stmt := .Assign [.Attribute (.Name "self" q.1) f q.2.1] (.Name f q.2.2.1) q.2.2.2
/-- what the top says of such a class: C the class, fI its __init__, cc the cell of __class__, cda the code -/
structure ExI (prog : Program) (K : PySem.W.Frag) (c : Str) (C fI cc cda : Addr) (B newId initId : String) (bmB : List Value) (fs : List Str) : Prop where
  ns : PySem.W.nsIn K mainGlobals c = some (some (.ref C))
  kp : PySem.W.keepIn K (.ref C) = true
  sb : PySem.W.subIn K (.ref C) (.type "BaseException") = some true
  sB : PySem.W.subIn K (.ref C) (.type B) = some true
  ty : PySem.W.typeIn K (.ref C) = some (.type "type")
  ini : PySem.W.findIn K (.ref C) "__init__" = some (some (.ref fI))
  fn : PySem.W.isFn K (.ref fI) = true
  ex : PySem.W.excInitIn K C bmB newId = true
  ov : PySem.W.excOver K C bmB = true
  sa : PySem.W.findIn K (.ref C) "__setattr__" = some (some (.builtin "object.__setattr__"))
  hd : PySem.W.hasDictIn K C = true
  sup : PySem.W.ks_superIn K C C "__init__" = some (some (.builtin initId))
  mro : PySem.W.mroIn K C (.ref C) = some true
  tkr : ∀ f ∈ fs, PySem.W.takerIn K C f = some none
  cell : ∃ cl cld csl, K.lookup cc = some ⟨cl, cld, .cell (some (.ref C)), csl⟩
  code : ∃ ccl cdd vs ccs file tf, K.lookup cda = some ⟨ccl, cdd, .fields vs, ccs⟩ ∧ vs[2]? = some (.str file tf) ∧ ((prog.main.file : Str) == file) = true
  sup0 : PySem.W.nsIn K mainGlobals "super" = some none
  any0 : PySem.W.nsIn K cStatics "thirdparty.any" = some none
  top0 : (prog.main.scope.names.lookup ("super" : Str)).isSome = false
/-- what its __init__ says -/
structure InitF (K : PySem.W.Frag) (fI cc cda : Addr) (fs : List Str) (fd : FuncData) : Prop where
  at_ : ∃ oc od osl, K.lookup fI = some ⟨oc, od, .func fd, osl⟩
  cd : PySem.W.codeIn K (.ref cda) fd.qualname = true
  form : ∃ name qual params m j p0 p1 p2 p3 p4 p5 qs scope dV kV doc pm an ct, fd = PySem.W.ksFn name qual params (supSt m j p0 p1 p2 p3 p4 p5 :: (fs.zip qs).map fun z => fldSt z.1 z.2) scope dV kV doc pm an (.ref cda) ct cc ∧ fs.length = qs.length ∧
    scope.names.lookup ("super" : Str) = some .globalImplicit ∧ scope.names.lookup ("__class__" : Str) = some .free ∧ scope.names.lookup ("self" : Str) = some .local ∧ (∀ f ∈ fs, scope.names.lookup f = some .local) ∧ scope.kind = .function ∧
    (∀ y ∈ scope.names, y.2 ≠ .cell) ∧ scope.isCoroutine = false ∧ scope.isGenerator = false ∧ (∃ ar, (params.posonlyargs ++ params.args).head? = some ar ∧ ar.arg = "self") ∧
    ∀ env : Env, ∃ pl : Sem Bool, eval (.Call (.Attribute (.Call (.Name "super" p0) [] [] p1) "__init__" p2) [.Constant (.str m) j p3] [] p4) env = (do
      let ov ← attributeBase (.Call (.Name "super" p0) [] [] p1) "__init__" env (eval (.Call (.Name "super" p0) [] [] p1) env)
      standAt p2.atName
      let (f, first) ← holding [ov] (getMethod ov "__init__" pl)
      callWith p4 f first (backTo p4 (starEach [.Constant (.str m) j p3] env)) [])
  bind : ∀ (s : Shared) (v : Value) (us : List Value), us.length = fs.length → BindsTo s fd ⟨v :: us, []⟩ (("self", v) :: fs.zip us)
  dist : fs.Nodup ∧ ("self" : Str) ∉ fs ∧ fs ≠ [] ∧ fs.length ≤ 5 ∧ ∀ f ∈ fs, (f == ("__debug__" : Str)) = false

section
open PySem.W PySem.Calls
variable {prog : Program} {w : World} {A : Around} {E : Value → Shared → Prop} {K : Frag} {C x fI cc cda : Addr} {B newId initId : String} {bmB : List Value} {hp : Heap} {g : Array GenState} {d : Drawn} {t : Nat} {os : OsState} {c : Str} {fs : List Str} {fd : FuncData}
theorem excObj_at (C t : Addr) (dv : Option Addr) : (excObj C t dv .none).cls = .ref C := rfl
/-- the stores behind the first one -/
theorem xst_rest {env : Env} {mL : Str → Option Value} {t1 dx : Addr} (SF : StoreFacts B bmB "object.__setattr__" "object") (ex : ExI prog K c C fI cc cda B newId initId bmB fs) (hk : env.scope.kind = .function) (hs : env.kindOf "self" = some .local) (hself : mL "self" = some (.ref x)) :
    ∀ (qs : List (Str × Pos × Pos × Pos × Pos)) (us : List Value) (hp : Heap) (t : Nat) (m0 : Str → Option Value) (nl : List Str) (Q : Flow → Shared → Prop), K.In hp → (∀ z ∈ qs, z.1 ∈ fs ∧ env.kindOf z.1 = some .local ∧ (z.1 == ("__debug__" : Str)) = false) → (∀ z ∈ qs.zip us, mL z.1.1 = some z.2) → qs.length = us.length →
      hp.get? x = some (excObj C t1 (some dx) .none) → hp.Ns env.locals mL → env.locals ≠ dx → hp.Ns1 dx m0 → Within m0 nl → nl.length + qs.length ≤ 1000 → dx ≠ x → K.lookup dx = none →
      (∀ h' tk' m', (∀ b o, b ≠ dx → hp.get? b = some o → h'.get? b = some o) → h'.Ns1 dx m' → (∀ f, m' f = match ((qs.map (·.1)).zip us).reverse.lookup f with | some u => some u | none => m0 f) → Q .next ⟨h', g, d, tk', os⟩) →
      wpAny (model prog w) A (execs (qs.map fun z => fldSt z.1 z.2) env) Q E ⟨hp, g, d, t, os⟩
  | [], us, hp, t, m0, nl, Q, X, _, _, hl, hx, hL, hne, hn, hw, hz, hdx, hkd, q => by
    match us, hl with
    | [], _ => exact wpAny_execs_nil (q hp t m0 (fun _ _ _ h => h) hn fun f => rfl)
  | z :: qs, [], hp, t, m0, nl, Q, X, _, _, hl, _, _, _, _, _, _, _, _, _ => by cases hl
  | z :: qs, u :: us, hp, t, m0, nl, Q, X, hq, hm, hl, hx, hL, hne, hn, hw, hz, hdx, hkd, q => by
    obtain ⟨hf, hloc, hdb⟩ := hq z List.mem_cons_self
    have hu : mL z.1 = some u := hm (z, u) (by rw [List.zip_cons_cons]; exact List.mem_cons_self)
    rw [List.length_cons] at hz
    rw [List.map_cons]
    refine wpAny_execs_cons (plainObj_wpAny_Assign_Attribute (wpAny_Name (wpAny_loadName_local hk hloc hL hu (wpAny_Name (wpAny_loadName_local hk hs hL hself ?_) (by decide))) hdb) ?_)
    · refine xst_old SF X hx hn hw (by omega) ex.sa ex.ov (ex.tkr _ hf) ex.hd fun h' tk' k hn' => ?_
      have Xn : K.In h' := fun b o e => k b o (fun y => by rw [y, hkd] at e; cases e) (X b o e)
      obtain ⟨oL, es, ep, eL, rL⟩ := hL
      refine xst_rest SF ex hk hs hself qs us h' tk' _ (z.1 :: nl) Q Xn (fun y hy => hq y (List.mem_cons_of_mem _ hy)) (fun y hy => hm y (by rw [List.zip_cons_cons]; exact List.mem_cons_of_mem _ hy)) (by simpa using hl) (k x _ (Ne.symm hdx) hx) ⟨oL, es, ep, k _ _ hne eL, rL⟩ hne hn' (Within.cons z.1 u hw) (by rw [List.length_cons]; omega) hdx hkd ?_
      intro h2 tk2 m' k2 hn2 hm2
      refine q h2 tk2 m' (fun b o hb e => k2 b o hb (k b o hb e)) hn2 fun f => ?_
      rw [hm2 f, List.map_cons, List.zip_cons_cons, List.reverse_cons, List.lookup_append]
      cases e : ((qs.map (·.1)).zip us).reverse.lookup f with
      | some v => rfl
      | none =>
        by_cases hff : f = z.1
        · subst hff; simp [List.lookup]
        · have e2 : (f == z.1) = false := by simpa using hff
          simp [List.lookup, e2, hff]
    · rfl

theorem look_zip_rev {V : Type} : ∀ {ns : List Str} {us : List V} (f : Str), ns.Nodup → (ns.zip us).reverse.lookup f = (ns.zip us).lookup f
  | [], _, _, _ => rfl
  | _ :: _, [], _, _ => rfl
  | n :: ns, u :: us, f, hd => by
    rw [List.nodup_cons] at hd
    rw [List.zip_cons_cons, List.reverse_cons, List.lookup_append, look_zip_rev f hd.2]
    by_cases e : f = n
    · subst e
      have h : (ns.zip us).lookup f = none := by
        rw [List.lookup_eq_none_iff]
        intro p hp
        have := (List.of_mem_zip hp).1
        simp only [bne_iff_ne, ne_eq, beq_iff_eq]
        first
          | exact fun z => hd.1 (z ▸ this)
          | (simp; exact fun z => hd.1 (z ▸ this))
      rw [h]; simp [List.lookup]
    · have e2 : (f == n) = false := by simpa using e
      have e3 : List.lookup f ((n, u) :: ns.zip us) = List.lookup f (ns.zip us) := by rw [List.lookup_cons, e2]
      have e4 : List.lookup f [(n, u)] = none := by rw [List.lookup_cons, e2]; rfl
      rw [e3, e4, Option.or_none]
theorem look_mem_zip {V : Type} : ∀ {ns : List Str} {us : List V} {z : Str × V}, ns.Nodup → z ∈ ns.zip us → (ns.zip us).lookup z.1 = some z.2
  | [], _, _, _, h => by simp at h
  | _ :: _, [], _, _, h => by simp at h
  | n :: ns, u :: us, z, hd, h => by
    rw [List.nodup_cons] at hd
    rw [List.zip_cons_cons] at h ⊢
    rcases List.mem_cons.mp h with rfl | h
    · rw [List.lookup_cons, beq_self_eq_true]
    · have e : (z.1 == n) = false := by
        have := (List.of_mem_zip h).1
        simpa using fun y : z.1 = n => hd.1 (y ▸ this)
      rw [List.lookup_cons, e]
      exact look_mem_zip hd.2 h
/-- all stores of __init__ -/
theorem xst_all {env : Env} {mL : Str → Option Value} {t1 : Addr} {f : Str} {q : Pos × Pos × Pos × Pos} {u : Value} {qs : List (Str × Pos × Pos × Pos × Pos)} {us : List Value} {Q : Flow → Shared → Prop} (SF : StoreFacts B bmB "object.__setattr__" "object") (ex : ExI prog K c C fI cc cda B newId initId bmB fs) (hk : env.scope.kind = .function) (hs : env.kindOf "self" = some .local) (hself : mL "self" = some (.ref x))
    (X : K.In hp) (hxk : K.lookup x = none) (hf : f ∈ fs ∧ env.kindOf f = some .local ∧ (f == ("__debug__" : Str)) = false) (hfu : mL f = some u) (hq : ∀ z ∈ qs, z.1 ∈ fs ∧ env.kindOf z.1 = some .local ∧ (z.1 == ("__debug__" : Str)) = false) (hm : ∀ z ∈ qs.zip us, mL z.1.1 = some z.2) (hl : qs.length = us.length)
    (hx : hp.get? x = some (excObj C t1 none .none)) (hL : hp.Ns env.locals mL) (hLx : env.locals ≠ x) (hz : qs.length ≤ 900) (hnd : (f :: qs.map (·.1)).Nodup)
    (fin : ∀ h' tk' m' dx, (∀ b o, b ≠ x → hp.get? b = some o → h'.get? b = some o) → hp.objs.size ≤ dx → dx ≠ x → h'.get? x = some (excObj C t1 (some dx) .none) → h'.Ns1 dx m' → (∀ y, m' y = ((f, u) :: (qs.map (·.1)).zip us).lookup y) → Q .next ⟨h', g, d, tk', os⟩) :
    wpAny (model prog w) A (execs (fldSt f q :: qs.map fun z => fldSt z.1 z.2) env) Q E ⟨hp, g, d, t, os⟩ := by
  refine wpAny_execs_cons (plainObj_wpAny_Assign_Attribute (wpAny_Name (wpAny_loadName_local hk hf.2.1 hL hfu (wpAny_Name (wpAny_loadName_local hk hs hL hself ?_) (by decide))) hf.2.2) ?_)
  · refine xst_new SF X hx ex.sa ex.ov (ex.tkr _ hf.1) ex.hd fun h5 tk5 dx k5 hdx hdxx hx5 hn5 => ?_
    have hd4 : env.locals ≠ dx := by
      obtain ⟨oL, es, ep, eL, rL⟩ := hL
      exact Nat.ne_of_lt (Nat.lt_of_lt_of_le (Heap.lt_size eL) hdx)
    have hKd : K.lookup dx = none := by
      cases e : K.lookup dx with
      | none => rfl
      | some o => exact absurd (Heap.lt_size (X _ _ e)) (Nat.not_lt.mpr hdx)
    have nx : ∀ {b : Addr} {o : Obj}, K.lookup b = some o → b ≠ x := fun {b o} e z => by rw [z, hxk] at e; cases e
    have X5 : K.In h5 := fun b o e => k5 b o (nx e) (X b o e)
    have hL5 : h5.Ns env.locals mL := by
      obtain ⟨oL, es, ep, eL, rL⟩ := hL
      exact ⟨oL, es, ep, k5 _ _ hLx eL, rL⟩
    refine xst_rest SF ex hk hs hself qs us h5 tk5 _ [f] _ X5 hq hm hl hx5 hL5 hd4 hn5 (Within.cons f u Within.nil) (by rw [List.length_singleton]; omega) hdxx hKd ?_
    intro h6 tk6 m6 k6 hn6 hm6
    have hne : ∀ b o, hp.get? b = some o → b ≠ dx := fun b o e => Nat.ne_of_lt (Nat.lt_of_lt_of_le (Heap.lt_size e) hdx)
    refine fin h6 tk6 m6 dx (fun b o hb e => k6 b o (hne b o e) (k5 b o hb e)) hdx hdxx (k6 _ _ hdxx.symm hx5) hn6 fun y => ?_
    rw [List.nodup_cons] at hnd
    rw [hm6 y, look_zip_rev y hnd.2]
    by_cases e : y = f
    · subst e
      have h0 : ((qs.map (·.1)).zip us).lookup y = none := by
        rw [List.lookup_eq_none_iff]
        intro p hp
        have := (List.of_mem_zip hp).1
        first
          | exact fun z => hnd.1 (z ▸ this)
          | (simp; exact fun z => hnd.1 (z ▸ this))
      rw [h0, List.lookup_cons, beq_self_eq_true]
      simp
    · have e2 : (y == f) = false := by simpa using e
      rw [List.lookup_cons, e2]
      cases ((qs.map (·.1)).zip us).lookup y with
      | some v => rfl
      | none => simp [e]
  · rfl
/-- __init__ is run -/
theorem init_run {us : List Value} {mg mb : Str → Option Value} {t0 : Addr} {R : Result → Shared → Prop} (FB : XB newId initId bmB) (SF : StoreFacts B bmB "object.__setattr__" "object") (KF : KxsFacts B initId) (ex : ExI prog K c C fI cc cda B newId initId bmB fs) (inf : InitF K fI cc cda fs fd)
    (X : K.In hp) (hlim : hp.NoLimit) (hg : hp.Ns mainGlobals mg) (hgs : mg "super" = none) (hb : hp.Ns builtinsNs mb) (hbs : mb "super" = some (.type "super")) (hroom : A.depth < recursionLimit) (hx : hp.get? x = some (excObj C t0 none .none)) (hxk : K.lookup x = none) (hl : us.length = fs.length)
    (fin : ∀ h' tk dx t1 m', (∀ b o, b ≠ x → hp.get? b = some o → h'.get? b = some o) → h'.get? x = some (excObj C t1 (some dx) .none) → hp.objs.size ≤ dx → dx ≠ x → h'.Ns1 dx m' → (∀ f, m' f = (fs.zip us).lookup f) → R (.ok (.ret .none)) ⟨h', g, d, tk, os⟩) :
    codeAny (model prog w) A (.call (.ref fI) ⟨.ref x :: us, []⟩) R ⟨hp, g, d, t, os⟩ := by
  obtain ⟨oc, od, osl, lk⟩ := inf.at_
  obtain ⟨name, qual, params, m, j, p0, p1, p2, p3, p4, p5, qs, scope, dV, kV, doc, pm, an, ct, rfl, hqs, hks, hkc, hka, hkf, hk, hcell, hco, hgen, ⟨ar, har, hars⟩, hev⟩ := inf.form
  obtain ⟨hnd, hsf, hne, hle, hdbg⟩ := inf.dist
  obtain ⟨ccl, cdd, vs, ccs, file, tf, hcode, hvs, hfile⟩ := ex.code
  obtain ⟨cl, cld, csl, hcel⟩ := ex.cell
  have hloc : ∀ y ∈ ((("self" : Str), Value.ref x) :: fs.zip us), scope.names.lookup y.1 = some NameKind.local := by
    intro y hy
    rcases List.mem_cons.mp hy with rfl | hy
    · exact hka
    · exact hkf _ (List.of_mem_zip hy).1
  obtain ⟨oD, cdD, hD0, hD1, hDc⟩ : ∃ oD cdD, K.lookup C = some oD ∧ oD.data = .cls cdD ∧ clsIn K C = some cdD := by
    obtain ⟨cd', hc', _⟩ := any_some ex.hd
    have hc2 := hc'
    unfold clsIn at hc2
    split at hc2
    · rename_i a1 a2 a3 a4 ho
      cases hc2
      exact ⟨_, _, ho, rfl, hc'⟩
    · cases hc2
  refine ks_codeAny_call_defAt hroom (X _ _ lk) rfl hlim (codeRec_of X inf.cd) rfl (inf.bind ⟨hp, g, d, t, os⟩ (.ref x) us hl) hcell hloc (fun h1 hns1 k1 => ?_) hco hgen hk
  have X1 : K.In h1 := X.keeps k1
  have mself : (((("self" : Str), Value.ref x) :: fs.zip us).reverse).lookup ("self" : Str) = some (.ref x) := by
    rw [List.reverse_cons, List.lookup_append]
    have h0 : (fs.zip us).reverse.lookup ("self" : Str) = none := by
      rw [look_zip_rev _ hnd, List.lookup_eq_none_iff]
      intro p hp
      have := (List.of_mem_zip hp).1
      first
        | exact fun z => hsf (z ▸ this)
        | (simp; exact fun z => hsf (z ▸ this))
    rw [h0]; simp [List.lookup]
  have mfld : ∀ f u, (fs.zip us).lookup f = some u → ((("self" : Str), Value.ref x) :: fs.zip us).reverse.lookup f = some u := fun f u e => by
    rw [List.reverse_cons, List.lookup_append, look_zip_rev _ hnd, e]; rfl
  obtain ⟨pl, hev⟩ := hev (ksEnv qual scope hp.objs.size fI (.ref cda) cc)
  refine ks_wpAt_execs_cons (ks_wpAt_Expr_any (ks_wpAt_MethodCall (pl := pl) ?_ hev) (by show (scope.kind == ScopeKind.module && _) = false; rw [hk]; rfl))
  refine ks_wpAt_super_base (env := ksEnv qual scope hp.objs.size fI (.ref cda) cc) hks hkc (by decide) rfl (k1 _ _ (X _ _ lk)) rfl har rfl (k1 _ _ (X _ _ hcode)) rfl hvs hfile ex.top0 ?_
  refine ks_loadName_global hk hks (loadGlobal_builtin (env := ksEnv qual scope hp.objs.size fI (.ref cda) cc) (hg.keeps k1) hgs (hb.keeps k1) hbs ⟨rfl, ?_⟩)
  refine wpAny_loadName_free hk hkc rfl ⟨_, X1 _ _ hcel, rfl⟩ ?_
  refine wpAny_loadName_local hk (by rw [hars]; exact hka) hns1 (by rw [hars]; exact mself) ?_
  refine ks_wpAny_isType_cls (X1 _ _ hD0) hD1 ⟨rfl, ?_⟩
  refine ks_wpAny_call_super (X1 _ _ hD0) hD1 (k1 _ _ hx) rfl (fun c e => by cases e) (looks_mroIn X1 ex.mro) (fun h2 e2 k2 => ?_)
  have X2 : K.In h2 := X1.keeps k2
  have hx2 : h2.get? x = some (excObj C t0 none .none) := k2 _ _ (k1 _ _ hx)
  have I2 : InstAt h2 x (excObj C t0 none .none) C none := ⟨hx2, rfl, rfl, trivial⟩
  have hsup := ex.sup
  unfold ks_superIn at hsup
  rw [hDc] at hsup
  refine kxs_getMethod KF e2 (looks_opaque X2 ex.any0) (l₀ := cdD.mro) ((looks_clsIn X2 hDc).andThen .now) rfl X2 hsup (I2.type.andThen (looks_subIn X2 ex.sB)) (ks_ne X2 I2 hDc) (by decide) ?_
  have k3 : ∀ b o, h2.get? b = some o → (h2.push (kxs_mw initId x)).get? b = some o := fun b o e => Heap.get?_push_of_some _ e
  have hu3 : (h2.push (kxs_mw initId x)).get? h2.objs.size = some (kxs_mw initId x) := Heap.get?_push_at rfl rfl
  refine kxs_callWith (i := initId) (x := x) rfl (evalArgs_plain (args_cons (Calls.Constant_str (args_nil ⟨hu3, ?_⟩))))
  refine xin_call FB ex.ex (X2.keeps k3) hu3 (k3 _ _ hx2) (by show 1 ≤ sizeLine; rw [sizeLine_eq]; omega) fun h4 t4 k4 hx4 => ?_
  have nx : ∀ {b : Addr} {o : Obj}, K.lookup b = some o → b ≠ x := fun {b o} e z => by rw [z, hxk] at e; cases e
  have X4 : K.In h4 := fun b o e => k4 b o (nx e) (X2.keeps k3 b o e)
  have hxL : x < hp.objs.size := Heap.lt_size hx
  have hLx : hp.objs.size ≠ x := Nat.ne_of_gt hxL
  have up : ∀ b o, b ≠ x → h1.get? b = some o → h4.get? b = some o := fun b o hb e => k4 b o hb (k3 _ _ (k2 _ _ e))
  have hL4 : h4.Ns hp.objs.size (fun y => ((("self" : Str), Value.ref x) :: fs.zip us).reverse.lookup y) := by
    obtain ⟨oL, es, ep, eL, rL⟩ := hns1
    exact ⟨oL, es, ep, up _ _ hLx eL, rL⟩
  refine wpAt_of_wpAny ?_
  have hfu : ∀ z ∈ fs.zip us, ((("self" : Str), Value.ref x) :: fs.zip us).reverse.lookup z.1 = some z.2 := fun z hz => mfld _ _ (look_mem_zip hnd hz)
  have hall : ∀ f ∈ fs, f ∈ fs ∧ (ksEnv qual scope hp.objs.size fI (.ref cda) cc).kindOf f = some .local ∧ (f == ("__debug__" : Str)) = false := fun f hf => ⟨hf, hkf f hf, hdbg f hf⟩
  cases hfs : fs with
  | nil => exact absurd hfs hne
  | cons f fs' =>
    cases us with
    | nil => rw [hfs] at hl; cases hl
    | cons u us =>
      cases qs with
      | nil => rw [hfs] at hqs; cases hqs
      | cons q qs =>
        rw [hfs] at hqs hl hle hnd
        have hqs' : fs'.length = qs.length := by simpa using hqs
        have hl' : us.length = fs'.length := by simpa using hl
        have em : (fs'.zip qs).map (·.1) = fs' := List.map_fst_zip (by omega)
        rw [List.zip_cons_cons, List.map_cons]
        refine xst_all (env := ksEnv qual scope hp.objs.size fI (.ref cda) cc) (mL := fun y => ((("self" : Str), Value.ref x) :: fs.zip (u :: us)).reverse.lookup y) (u := u) (us := us) SF ex hk hka mself X4 hxk (hall f (by rw [hfs]; exact List.mem_cons_self)) (hfu (f, u) (by rw [hfs, List.zip_cons_cons]; exact List.mem_cons_self)) (fun z hz => hall _ (by rw [hfs]; exact List.mem_cons_of_mem _ (List.of_mem_zip hz).1)) (fun z hz => ?_) (by rw [List.length_zip]; omega) hx4 hL4 hLx (by rw [List.length_zip]; simp at hle; omega) (by rw [em]; exact hnd) ?_
        · obtain ⟨z1, z2⟩ := z
          refine hfu (z1.1, z2) ?_
          rw [hfs, List.zip_cons_cons]
          refine List.mem_cons_of_mem _ ?_
          obtain ⟨i, hi, e⟩ := List.mem_iff_getElem.mp hz
          rw [List.getElem_zip] at e
          obtain ⟨e1, e2⟩ := Prod.mk.inj e
          rw [List.getElem_zip] at e1
          rw [List.length_zip, List.length_zip] at hi
          refine List.mem_iff_getElem.mpr ⟨i, by rw [List.length_zip]; omega, ?_⟩
          rw [List.getElem_zip, ← e1, ← e2]
        · intro h6 tk6 m6 dx k6 hdx hdxx hx6 hn6 hm6
          have hsz : hp.objs.size ≤ dx := by
            obtain ⟨oL, es, ep, eL, rL⟩ := hL4
            exact Nat.le_trans (Nat.le_of_lt (Heap.lt_size eL)) hdx
          refine fin h6 tk6 dx t4 m6 (fun b o hb e => k6 b o hb (up b o hb (k1 b o e))) hx6 hsz hdxx hn6 fun y => ?_
          rw [hm6 y, em, hfs, List.zip_cons_cons]
end

theorem relO_zip : ∀ {fs : List Str} {vs : List V} {us : List Value} (f : Str), Vals vs us → RelO ((fs.zip vs).lookup f) ((fs.zip us).lookup f)
  | [], _, _, _, _ => True.intro
  | _ :: _, _, _, _, .nil => True.intro
  | n :: fs, _, _, f, .cons (b := u) r t => by
    rw [List.zip_cons_cons, List.zip_cons_cons, List.lookup_cons, List.lookup_cons]
    cases f == n with
    | true => exact r
    | false => exact relO_zip f t
def tMkI (C : Addr) (fs : List Str) (ta : TA) : L2.St → Hp → XK → Prop := fun σ H Q => ta σ H fun vs H1 => vs.length = fs.length ∧ ∀ d, H1 d = none → Q (.ref C) (some d) (upd H1 d (.xd (fs.zip vs)))
section
variable {X : Cx} {C fI cc cda : Addr} {B newId initId : String} {bmB : List Value} {x : Str} {fs : List Str} {fd : FuncData} {e : Expr} {es : List Expr} {ta : TA} {p pos : Pos} {k : Nat}
theorem pmk_I (FB : XB newId initId bmB) (SF : StoreFacts B bmB "object.__setattr__" "object") (KF : PySem.W.KxsFacts B initId) (ex : ExI X.prog X.K x C fI cc cda B newId initId bmB fs) (inf : InitF X.K fI cc cda fs fd) (hr : Room k X.A) (hg : Gl X x) (hm : X.mg x = some (.ref C)) (ha : PA X (e :: es) ta)
    (hdb : (x == ("__debug__" : Str)) = false := by decide) (he : starEach (e :: es) X.env = (false, eval e X.env) :: starEach es X.env := by rfl) (hpl : (backTo pos (starEach es X.env)).any (·.1) = false := by rfl) :
    PMk X (.Call (.Name x p) (e :: es) [] pos) (tMkI C fs ta) := by
  intro pins s σ H Q I h
  refine wpAny_Call_Name_kw (ld_glob I hg hm ?_ hdb)
  refine PySem.W.callWith_K (h₀ := X.base) I.ok.mod.kin ex.kp (thn (ha.run pos pins s σ H _ I h) fun us s1 ⟨vs, H1, I1, r1, hz, q1⟩ => ⟨I1.kIn, ?_⟩) he hpl
  show wpAny _ _ (call (.ref C) us) _ _ _
  obtain ⟨hp, g, dr, tk, os⟩ := s1
  obtain ⟨nm, N', qn, bs, bm, hdct, sn, sub, ab, col, dd, k0, k1, k2, k3, k5, hC, hT⟩ := PySem.W.excInit_of I1.kIn ex.ex
  obtain ⟨hnd, hsf, hne, hle, hdbg⟩ := inf.dist
  have hul : us.length = fs.length := by rw [← Paired.length r1]; exact hz
  have hus : us.length ≤ sizeLine := by rw [hul, sizeLine_eq]; omega
  obtain ⟨oI, hoI, hcI⟩ : ∃ oI, hp.get? fI = some oI ∧ oI.cls = .type "function" := by
    obtain ⟨o, ho, hc⟩ := Option.map_eq_some_iff.mp (show (X.K.lookup fI).map (·.cls) = some (.type "function") from beq_iff_eq.mp ex.fn)
    exact ⟨o, I1.kIn _ _ ho, hc⟩
  have hget : ((hp.push (PySem.W.excTup us)).push (PySem.W.excObj C hp.objs.size none .none)).get? (hp.objs.size + 1) = some (PySem.W.excObj C hp.objs.size none .none) := by heap_get
  have kk : ∀ b o, hp.get? b = some o → ((hp.push (PySem.W.excTup us)).push (PySem.W.excObj C hp.objs.size none .none)).get? b = some o := fun b o e => Heap.get?_push_of_some _ (Heap.get?_push_of_some _ e)
  have hsz : hp.objs.size ≤ hp.objs.size + 1 := Nat.le_succ _
  have M := I1.mod
  have bk : ∀ b o, X.base.get? b = some o → hp.get? b = some o := I1.bk
  obtain ⟨mb, hmb, hbb⟩ := M.blt
  have bk2 : ∀ b o, X.base.get? b = some o → ((hp.push (PySem.W.excTup us)).push (PySem.W.excObj C hp.objs.size none .none)).get? b = some o := fun b o e => kk b o (bk b o e)
  have hxk : X.K.lookup (hp.objs.size + 1) = none := by
    cases e : X.K.lookup (hp.objs.size + 1) with
    | none => rfl
    | some o => exact absurd (Heap.lt_size (I1.kIn _ _ e)) (Nat.not_lt.mpr hsz)
  have hroom : (X.A.under (.builtin "type.__call__" ⟨.ref C :: us, []⟩)).depth < recursionLimit := by have := hr.dp; rw [make_depth]; omega
  refine wpAny_call (FB.made hT hC (PySem.W.looks_findIn I1.kIn ex.ini) (fun self => PySem.W.exc_bind hoI hcI self) hus ?_)
  refine init_run FB SF KF ex inf (I1.kIn.keeps kk) (M.nolimit.keeps bk2) (M.glob.keeps bk2) (PySem.W.mg_none_of M.kin M.glob ex.sup0) (hmb.keeps bk2) ((hbb _ (by decide)).trans PyProof.Rows.Boot.«super») hroom hget hxk hul ?_
  intro h' tk' dx t1 m' hk hx' hdx hdxx hn' hm'
  refine ⟨rfl, ?_⟩
  have hdx' : hp.objs.size ≤ dx := by
    rw [Heap.size_push, Heap.size_push] at hdx
    omega
  obtain ⟨G, g1, g2⟩ := restrict h' fun b => decide (b ≠ hp.objs.size + 1)
  have gk : ∀ b, b ≠ hp.objs.size + 1 → G.get? b = h'.get? b := fun b hb => g1 b (decide_eq_true hb)
  have ge : G.get? (hp.objs.size + 1) = none := g2 _ (by simp)
  have kG : ∀ b o, hp.get? b = some o → G.get? b = some o := fun b o e => by
    have hb : b ≠ hp.objs.size + 1 := Nat.ne_of_lt (Nat.lt_succ_of_lt (Heap.lt_size e))
    rw [gk b hb]
    exact hk b o hb (kk b o e)
  have J : Inv X pins σ (upd H1 dx (.xd (fs.zip vs))) ⟨G, g, dr, tk', os⟩ := I1.laid (t' := tk') (a := dx) (o := .xd (fs.zip vs)) (h' := G) kG hdx' ⟨m', hn'.at fun o y => (gk dx hdxx).trans y, fun f => by rw [hm' f]; exact relO_zip f r1⟩
  have na : (upd H1 dx (.xd (fs.zip vs))) (hp.objs.size + 1) = none := by rw [upd_ne hdxx.symm]; exact I1.hok.fresh hsz
  refine ⟨hp.objs.size + 1, _, _, ⟨G, g, dr, tk', os⟩, _, .ref C, some dx, rfl, J, fun b o e => ?_, ge, hx', ⟨rfl, rfl⟩, rfl, rfl, na, rfl, I1.bare, raises_own ex.sb ex.ty, q1 dx (I1.hok.fresh hdx')⟩
  by_cases hb : b = hp.objs.size + 1
  · rw [hb, ge] at e; cases e
  · exact (gk b hb).symm.trans e
end
/-- raise X(..), X an own class that keeps its arguments -/
def dRaiseI (c : Str) (fs : List Str) (aa : DA) : DTS := fun E ds ms => aa ds ms fun xs m => xs.length = fs.length ∧ E.ex c fs xs ds m
section
variable {X : Cx} {W : WX} {C fI cc cda : Addr} {B newId initId : String} {bmB : List Value} {x : Str} {fs : List Str} {fd : FuncData} {e : Expr} {es : List Expr} {aa : DA} {p pos pos' : Pos} {k : Nat}
theorem px_raiseI (hc : X.calm = true) (tk : Takes X W) (FB : XB newId initId bmB) (SF : StoreFacts B bmB "object.__setattr__" "object") (KF : PySem.W.KxsFacts B initId) (ex : ExI X.prog X.K x C fI cc cda B newId initId bmB fs) (inf : InitF X.K fI cc cda fs fd) (hr : RoomG k X.A) (hg : Gl X x) (hm : X.mg x = some (.ref C)) (ha : PDA X (e :: es) aa)
    (hdb : (x == ("__debug__" : Str)) = false := by decide) (he : starEach (e :: es) X.env = (false, eval e X.env) :: starEach es X.env := by rfl) (hpl : (backTo pos (starEach es X.env)).any (·.1) = false := by rfl) :
    PX X W (.Raise (some (.Call (.Name x p) (e :: es) [] pos)) none pos') (dRaiseI x fs aa) :=
  psImp (ps_raise hc tk (pmk_I FB SF KF ex inf hr.r hg hm ha hdb he hpl)) fun D σ H ⟨F0, ds, ms, E, R, S, h, _, _, _, _, z⟩ =>
    ⟨F0, ds, ms, _, R, S, h, fun xs m vs F1 H1 p1 R1 s1 rs => ⟨rs.length.trans p1.1, fun d hd => by
      have sb : Sub F1 (upd F1 d (.xd (fs.zip vs))) := Sub.new (R1.sub.none hd)
      exact z x fs xs ds m _ (some d) vs σ (upd F1 d (.xd (fs.zip vs))) _ p1.2 (R1.new hd) (s1.trans (Stp.new R1 hd)) ((S.mono s1.sub).mono sb) ex.ns (.inr ⟨d, rfl, upd_same, by rw [rs.length]; exact p1.1.symm, inf.dist.2.2.1⟩) (rs.mono sb)⟩⟩
end
end DL

namespace DL
open PySem PySem.Spec PyProof.Rows L2

/-! ### loops whose body may raise -/
section
variable {K : PySem.W.Frag} {W : WX} {di : DI} {dg : DG} {tb : DTS} {g : TG} {vs : List Nat} {c : DT}
theorem liftX_for (hg : TgD K g dg vs) : ∀ D σ H, liftX K W (dFor di dg tb) D σ H → tFor (liftI K di) g (liftX K W tb) D σ H := fun D σ H ⟨F, ds, ms, E, R, S, h, n, r, k, q, x0⟩ => by
  refine ⟨F, ds, ms, _, R, S, h, fun xs m F0 H0 J p0 R0 s0 wk => ?_⟩
  refine for_it wk (fun i σ1 H1 => ∃ F1 ds1 m1, Rel K F1 H1 m1 ∧ Stp F H ms F1 H1 m1 ∧ Sub F0 F1 ∧ Sl K F1 σ1 ds1 ∧ loopD dg tb E (xs.drop i) ds1 m1)
    ⟨F0, ds, m, R0, s0, Sub.refl F0, S.mono s0.sub, p0⟩ (fun i σ1 H1 _ ⟨F1, ds1, m1, R1, s1, s01, S1, h1⟩ => s01.trans R1.sub) ?_ ?_
  · rintro i x σ1 H1 H2 hi ⟨F1, ds1, m1, R1, s1, s01, S1, h1⟩ ⟨d, hd, hy⟩
    rw [drop_get hd] at h1
    have fin : ∀ {F2 : Hp} {x : V}, Rel K F2 H2 m1 → Stp F H ms F2 H2 m1 → Sub F1 F2 → DR K F2 x d →
        g x σ1 H2 fun σ2 H3 => liftX K W tb { D with nx := fun σ1 H1 => ∃ F1 ds1 m1, Rel K F1 H1 m1 ∧ Stp F H ms F1 H1 m1 ∧ Sub F0 F1 ∧ Sl K F1 σ1 ds1 ∧ loopD dg tb E (xs.drop (i + 1)) ds1 m1, ct := fun σ1 H1 => ∃ F1 ds1 m1, Rel K F1 H1 m1 ∧ Stp F H ms F1 H1 m1 ∧ Sub F0 F1 ∧ Sl K F1 σ1 ds1 ∧ loopD dg tb E (xs.drop (i + 1)) ds1 m1, bk := D.nx } σ2 H3 := by
      intro F2 x R2 s2 s12 rx
      refine hg.snd x σ1 F2 H2 _ d ds1 _ R2.sub (S1.mono s12) rx h1 fun ds2 σ2 h2 S2 => ?_
      refine ⟨F2, ds2, m1, _, R2, S2, h2, ?_, ?_, ?_, ?_, ?_⟩
      · exact fun ds3 m3 σ3 F3 H3 h3 R3 s3 S3 => ⟨F3, ds3, m3, R3, s2.trans s3, (s01.trans s12).trans s3.sub, S3, h3⟩
      · exact fun d3 m3 v3 F3 H3 h3 R3 s3 r3 => r d3 m3 v3 F3 H3 h3 R3 (s2.trans s3) r3
      · exact fun ds3 m3 σ3 F3 H3 h3 R3 s3 S3 => n ds3 m3 σ3 F3 H3 h3 R3 (s2.trans s3) S3
      · exact fun ds3 m3 σ3 F3 H3 h3 R3 s3 S3 => ⟨F3, ds3, m3, R3, s2.trans s3, (s01.trans s12).trans s3.sub, S3, h3⟩
      · exact fun c ns ys ds3 m3 cv d ws σ3 F3 H3 h3 R3 s3 S3 => x0 c ns ys ds3 m3 cv d ws σ3 F3 H3 h3 R3 (s2.trans s3) S3
    rcases hy with ⟨rfl, rx⟩ | ⟨T, a, b, da, db, rfl, hT, rfl, rfl, ra, rb⟩
    · exact fin R1 s1 (Sub.refl F1) (rx.mono s01)
    · exact fin (R1.new hT) (s1.trans (Stp.new R1 hT)) (Sub.new (R1.sub.none hT)) (R1.newTup hT (.cons (ra.mono s01) (.cons (rb.mono s01) .nil)))
  · rintro σ1 H1 ⟨F1, ds1, m1, R1, s1, s01, S1, h1⟩
    rw [List.drop_length] at h1
    exact n ds1 m1 σ1 F1 H1 h1 R1 s1 S1
theorem px_for {X : Cx} {tg iter : Expr} {body : List Stmt} {pos : Pos} (hp : PassesOwn (model X.prog X.w) X.A X.env X.xe) (hc : X.calm = true) (hi : PDI X tg iter di) (hg : PG X tg g) (hd : TgD X.K g dg vs) (hb : PXs X W body tb)
    (hs : ∀ x, foldedSetIterable iter X.env x = pure x := by intro _; rfl) : PX X W (.For tg iter body [] pos) (dFor di dg tb) := psImp (ps_for hp hc hi hg hb hs) (liftX_for hd)
theorem liftX_while : ∀ D σ H, liftX K W (dWhile c tb) D σ H → tWhile (liftT K c) (liftX K W tb) D σ H := fun D σ H ⟨F, ds, ms, E, R, S, ⟨n0, h⟩, n, r, k, q, x0⟩ => by
  refine ⟨fun m σ1 H1 => ∃ F1 ds1 m1, Rel K F1 H1 m1 ∧ Stp F H ms F1 H1 m1 ∧ Sl K F1 σ1 ds1 ∧ whileD c tb E m ds1 m1, ⟨n0, F, ds, ms, R, Stp.refl, S, h⟩, ?_⟩
  rintro m σ1 H1 ⟨F1, ds1, m1, R1, s1, S1, h1⟩
  cases m with
  | zero => exact h1.elim
  | succ m =>
    refine ⟨F1, ds1, m1, _, R1, S1, h1, fun b m2 F2 H2 p2 R2 s2 => ?_⟩
    cases b with
    | false =>
      rw [if_neg Bool.false_ne_true] at p2
      exact iteF (n ds1 m2 σ1 F2 H2 p2 R2 (s1.trans s2) (S1.mono s2.sub))
    | true =>
      rw [if_pos rfl] at p2
      refine iteT ⟨fun σ3 H3 => ∃ F3 ds3 m3, Rel K F3 H3 m3 ∧ Stp F H ms F3 H3 m3 ∧ Sl K F3 σ3 ds3 ∧ whileD c tb E m ds3 m3, fun σ3 H3 h3 => ⟨m, Nat.lt_succ_self m, h3⟩, F2, ds1, m2, _, R2, S1.mono s2.sub, p2, ?_, ?_, ?_, ?_, ?_⟩
      · exact fun ds3 m3 σ3 F3 H3 h3 R3 s3 S3 => ⟨F3, ds3, m3, R3, (s1.trans s2).trans s3, S3, h3⟩
      · exact fun d3 m3 v3 F3 H3 h3 R3 s3 r3 => r d3 m3 v3 F3 H3 h3 R3 ((s1.trans s2).trans s3) r3
      · exact fun ds3 m3 σ3 F3 H3 h3 R3 s3 S3 => n ds3 m3 σ3 F3 H3 h3 R3 ((s1.trans s2).trans s3) S3
      · exact fun ds3 m3 σ3 F3 H3 h3 R3 s3 S3 => ⟨F3, ds3, m3, R3, (s1.trans s2).trans s3, S3, h3⟩
      · exact fun c ns ys ds3 m3 cv d ws σ3 F3 H3 h3 R3 s3 S3 => x0 c ns ys ds3 m3 cv d ws σ3 F3 H3 h3 R3 ((s1.trans s2).trans s3) S3
theorem px_while {X : Cx} {e : Expr} {body : List Stmt} {pos : Pos} (hp : PassesOwn (model X.prog X.w) X.A X.env X.xe) (hc : PDT X e c) (hb : PXs X W body tb) : PX X W (.While e body [] pos) (dWhile c tb) :=
  psImp (ps_while hp hc hb) liftX_while
end

/-! ### expressions in which a call may raise -/
abbrev ZD := Str → List Str → List D → DS → MS → Prop
def liftZ (K : PySem.W.Frag) (W : WX) (Z : ZD) (de : DE) : TE := fun σ H Q => ∃ F ds ms P, Rel K F H ms ∧ Sl K F σ ds ∧ de ds ms P ∧
  (∀ d ms' v F' H', P d ms' → Rel K F' H' ms' → Stp F H ms F' H' ms' → DR K F' v d → Q v H') ∧
  (∀ c ns xs ms' cv d ws F' H', Z c ns xs ds ms' → Rel K F' H' ms' → Stp F H ms F' H' ms' → PySem.W.nsIn K mainGlobals c = some (some cv) → XD F' d ns ws → DRs K F' ws xs → W cv d σ H')
def liftAZ (K : PySem.W.Frag) (W : WX) (Z : ZD) (de : DA) : TA := fun σ H Q => ∃ F ds ms P, Rel K F H ms ∧ Sl K F σ ds ∧ de ds ms P ∧
  (∀ xs ms' vs F' H', P xs ms' → Rel K F' H' ms' → Stp F H ms F' H' ms' → DRs K F' vs xs → Q vs H') ∧
  (∀ c ns xs ms' cv d ws F' H', Z c ns xs ds ms' → Rel K F' H' ms' → Stp F H ms F' H' ms' → PySem.W.nsIn K mainGlobals c = some (some cv) → XD F' d ns ws → DRs K F' ws xs → W cv d σ H')
abbrev PDZ (X : Cx) (W : WX) (Z : ZD) (e : Expr) (de : DE) : Prop := PE X e (liftZ X.K W Z de)
abbrev PDAZ (X : Cx) (W : WX) (Z : ZD) (es : List Expr) (de : DA) : Prop := PA X es (liftAZ X.K W Z de)
def dCallZ (n m : Nat) (is : List Nat) (fx : FX) (aa ak : DA) (Z : ZD) : DE := fun ds ms P => aa ds ms fun xs m1 => ak ds m1 fun zs m2 => xs.length = n ∧ zs.length = m ∧ fx (pick is (xs ++ zs)) m2 P fun c ns ys m' => Z c ns ys ds m'
section
variable {X : Cx} {W : WX} {Z : ZD} {k n m i : Nat} {f : Addr} {fd : FuncData} {ps ks : List Str} {is : List Nat} {fx : FX} {x y : Str} {p pos kpos py : Pos} {e o : Expr} {es : List Expr} {kws : List Keyword} {aa ak : DA} {da dx : DE}
theorem pdz_of (h : PD X e da) : PDZ X W Z e da := peImp h fun σ H Q ⟨F, ds, ms, P, R, S, h1, h2, _⟩ => ⟨F, ds, ms, P, R, S, h1, h2⟩
theorem pdaz_of (h : PDA X es aa) : PDAZ X W Z es aa := paImp h fun σ H Q ⟨F, ds, ms, P, R, S, h1, h2, _⟩ => ⟨F, ds, ms, P, R, S, h1, h2⟩
theorem pdaz_cons (ha : PDZ X W Z e da) (hr : PDAZ X W Z es aa) (he : starEach (e :: es) X.env = (false, eval e X.env) :: starEach es X.env := by rfl) : PDAZ X W Z (e :: es) (aCons da aa) :=
  paImp (pa_cons ha hr he) fun σ H Q ⟨F, ds, ms, P, R, S, h1, h2, h3⟩ =>
    ⟨F, ds, ms, _, R, S, h1, fun dx m1 x F1 H1 p1 R1 s1 r1 => ⟨F1, ds, m1, _, R1, S.mono s1.sub, p1, fun xs m2 vs F2 H2 p2 R2 s2 r2 =>
      h2 _ m2 (x :: vs) F2 H2 p2 R2 (s1.trans s2) (.cons (r1.mono s2.sub) r2), fun c ns xs m2 cv d ws F2 H2 z R2 s2 => h3 c ns xs m2 cv d ws F2 H2 z R2 (s1.trans s2)⟩, h3⟩
theorem pdz_tup {x1} (h : PDAZ X W Z es aa) : PDZ X W Z (.Tuple es x1 pos) (dTup aa) := peImp (pe_tup h) fun σ H Q ⟨F, ds, ms, P, R, S, h1, h2, h3⟩ =>
  ⟨F, ds, ms, _, R, S, h1, fun xs m vs F1 H1 p1 R1 s1 r1 => ⟨by rw [r1.length]; exact p1.1, fun p hp =>
    h2 _ m _ (upd F1 p (.tup vs)) _ p1.2 (R1.new hp) (s1.trans (Stp.new R1 hp)) (R1.newTup hp r1)⟩, h3⟩
theorem pdz_append (ho : PD X o dx) (ha : PDAZ X W Z [e] aa)
    (hbase : attributeBase o "append" X.env (eval o X.env) = eval o X.env := by rfl)
    (hfew : ((backTo pos (starEach [e] X.env)).all (fun x => !x.1) && (backToKw pos (keywordEach [] X.env)).all (fun x => x.1.isSome) && decide ([e].length + ([] : List Keyword).length + (if ([] : List Keyword).isEmpty then 0 else 1) < 30)) = true := by rfl)
    (hline : (p.endLine == pos.line) = true := by rfl) (hs : starEach [e] X.env = (false, eval e X.env) :: starEach [] X.env := by rfl) (hplain : (backTo pos (starEach [] X.env)).any (·.1) = false := by rfl) :
    PDZ X W Z (.Call (.Attribute o "append" p) [e] [] pos) (dAppend dx aa) :=
  peImp (pe_bm PySem.F.plainAttrs_list PySem.F.slot_list_append PySem.F.type_list_append mt_append ho ha hbase hfew hline hs hplain) fun σ H Q ⟨F, ds, ms, P, R, S, h1, h2, h3⟩ =>
    ⟨F, ds, ms, _, R, S, h1, fun x m1 v F1 H1 p1 R1 s1 r1 => by
      match x, p1, r1 with
      | .opq (.ref p), ⟨⟨xs0, e0⟩, h⟩, r1 =>
        cases r1
        obtain ⟨hF, vs, hH, rs⟩ := R1.look e0
        refine ⟨.inl ⟨rfl, vs, SqL.of hH⟩, F1, ds, m1, _, R1, S.mono s1.sub, h, fun ys m2 ws F2 H2 p2 R2 s2 r2 => ?_, fun c ns xs m2 cv d ws F2 H2 z R2 s2 => h3 c ns xs m2 cv d ws F2 H2 z R2 (s1.trans s2)⟩
        match ys, r2, p2 with
        | [y], .cons ry .nil, p3 =>
          cases e1 : look m2 p with
          | none => simp only [e1] at p3
          | some xs =>
            simp only [e1] at p3
            obtain ⟨hF2, vs2, hH2, rs2⟩ := R2.look e1
            exact ⟨p, vs2, _, rfl, rfl, hH2, by rw [rs2.length]; exact p3.1, h2 _ _ _ F2 _ p3.2 (relPut R2 e1 (rs2.append (.cons ry .nil))) ((s1.trans s2).trans (stpPut R2 e1)) .non⟩⟩
def tCallXZ (K : PySem.W.Frag) (W : WX) (n m : Nat) (is : List Nat) (fx : FX) (t tk : TA) : TE := fun σ H Q => t σ H fun vs H1 => tk σ H1 fun zs H2 => vs.length = n ∧ zs.length = m ∧ spX K fx (pick is (vs ++ zs)) H2 Q fun cv d H3 => W cv d σ H3
theorem run_x {pins : List (Addr × Obj)} {σ : L2.St} {H : Hp} {s : Shared} {Q : VK} {us ws : List Value} {vs zs : List V} (tk : Takes X W) (F : FnX X.prog X.w X.K X.mg X.base k f fd ps (spX X.K fx)) (hr : RoomG k X.A) (hb : Bnd X.K fd ps n ks is)
    (I : Inv X pins σ H s) (r : Vals vs us) (rz : Vals zs ws) (l1 : vs.length = n) (l2 : zs.length = ks.length) (h : spX X.K fx (pick is (vs ++ zs)) H Q fun cv d H3 => W cv d σ H3) :
    wpAny (model X.prog X.w) X.A (call (.ref f) us (ks.zip ws)) (EP X pins σ Q) X.xe s := by
  have hb' := hb.to s us ws I.kIn (r.length ▸ l1) (rz.length ▸ l2)
  refine wpAny_call (codeAny_mono (F.go X.A X.stack s H ⟨us, ks.zip ws⟩ _ _ Q _ hr I.env0 hb' (pick_vals (r.append rz) is) h) fun r s' z => ?_)
  match r, z with
  | .error v, z => exact passAt tk σ pins H s v s' I z
  | .ok (.ret u), z => exact I.after z
  | .ok .next, z => exact False.elim z
  | .ok .brk, z => exact False.elim z
  | .ok .cont, z => exact False.elim z
theorem liftZ_call {K : PySem.W.Frag} : ∀ σ H Q, liftZ K W Z (dCallZ n m is fx aa ak Z) σ H Q → tCallXZ K W n m is fx (liftA K aa) (liftA K ak) σ H Q := fun σ H Q ⟨F, ds, ms, P, R, S, h1, h2, h3⟩ =>
  ⟨F, ds, ms, _, R, S, h1, fun xs m1 vs F1 H1 p1 R1 s1 r1 => ⟨F1, ds, m1, _, R1, S.mono s1.sub, p1, fun zs m2 ws F2 H2 p2 R2 s2 r2 => by
    obtain ⟨l1, l2, p2⟩ := p2
    refine ⟨r1.length.trans l1, r2.length.trans l2, F2, _, m2, P, _, R2, pick_drs ((r1.mono s2.sub).append r2) is, p2, fun d m3 v F3 H3 p3 R3 s3 r3 => ?_, fun c ns ys m3 cv d ws F3 H3 z R3 s3 hn hx hd => ?_⟩
    · exact h2 d m3 v F3 H3 p3 R3 (s1.trans (s2.trans s3)) r3
    · exact h3 c ns ys m3 cv d ws F3 H3 z R3 (s1.trans (s2.trans s3)) hn hx hd⟩⟩
theorem pdz_call (tk : Takes X W) (F : FnX X.prog X.w X.K X.mg X.base k f fd ps (spX X.K fx)) (hr : RoomG k X.A) (hg : Gl X x) (hm : X.mg x = some (.ref f)) (hk : PySem.W.keepIn X.K (.ref f) = true) (hb : Bnd X.K fd ps n [] is)
    (ha : PDA X (e :: es) aa) (hdb : (x == ("__debug__" : Str)) = false := by decide)
    (he : starEach (e :: es) X.env = (false, eval e X.env) :: starEach es X.env := by rfl)
    (hpl : (backTo pos (starEach es X.env)).any (·.1) = false := by rfl) :
    PDZ X W Z (.Call (.Name x p) (e :: es) [] pos) (dCallZ n 0 is fx aa aNil Z) := by
  refine peImp (t := tCallXZ X.K W n 0 is fx (liftA X.K aa) tNil) ⟨fun pins s σ H Q I h => ?_⟩ fun σ H Q h => ?_
  · refine wpAny_Call_Name_kw (ld_glob I hg hm ?_ hdb)
    refine PySem.W.callWith_K (h₀ := X.base) I.ok.mod.kin hk (thn (ha.run pos pins s σ H _ I h) ?_) he hpl
    rintro us s1 ⟨vs, H1, I1, r, l1, l2, q⟩
    exact ⟨I1.kIn, run_x (ws := []) (zs := []) (ks := []) tk F hr hb I1 r .nil l1 rfl q⟩
  · obtain ⟨F0, ds, ms, P, R, S, h1, h2⟩ := liftZ_call σ H Q h
    refine ⟨F0, ds, ms, P, R, S, h1, fun xs m v F1 H1 p1 R1 s1 r1 => ?_⟩
    obtain ⟨F2, ds2, m2, P2, R2, S2, p2, q2⟩ := h2 xs m v F1 H1 p1 R1 s1 r1
    exact q2 [] m2 [] F2 H1 p2 R2 Stp.refl .nil
theorem pdz_callK (tk : Takes X W) (F : FnX X.prog X.w X.K X.mg X.base k f fd ps (spX X.K fx)) (hr : RoomG k X.A) (hg : Gl X x) (hm : X.mg x = some (.ref f)) (hk : PySem.W.keepIn X.K (.ref f) = true) (hb : Bnd X.K fd ps n ks is)
    (ha : PDA X (e :: es) aa) (hkw : PDK X kws ak) (hdb : (x == ("__debug__" : Str)) = false := by decide)
    (hall : (backToKw pos (keywordEach kws X.env)).all (·.1.isSome) = true := by rfl) (hks : (backToKw pos (keywordEach kws X.env)).filterMap (·.1) = ks := by rfl)
    (he : starEach (e :: es) X.env = (false, eval e X.env) :: starEach es X.env := by rfl)
    (hpl : ((backTo pos (starEach (e :: es) X.env)).any (·.1) || (backToKw pos (keywordEach kws X.env)).any (·.1.isNone)) = false := by rfl)
    (hlen : ks.length = m := by rfl) :
    PDZ X W Z (.Call (.Name x p) (e :: es) kws pos) (dCallZ n m is fx aa ak Z) := by
  subst hlen
  refine peImp (t := tCallXZ X.K W n ks.length is fx (liftA X.K aa) (liftA X.K ak)) ⟨fun pins s σ H Q I h => ?_⟩ liftZ_call
  refine wpAny_Call_Name_kw (ld_glob I hg hm ?_ hdb)
  refine PySem.W.callWith_KW (h₀ := X.base) I.ok.mod.kin hk hall (thn (ha.run pos pins s σ H _ I h) ?_) hpl he
  rintro us s1 ⟨vs, H1, I1, r, q⟩
  refine thn (hkw.run pos pins s1 σ H1 _ I1 q) ?_
  rintro ws s2 ⟨zs, H2, I2, rz, l1, l2, q2⟩
  refine ⟨I2.kIn, ?_⟩
  rw [hks]
  exact run_x tk F hr hb I2 r rz l1 l2 q2
theorem pdz_callK0 (tk : Takes X W) (F : FnX X.prog X.w X.K X.mg X.base k f fd ps (spX X.K fx)) (hr : RoomG k X.A) (hg : Gl X x) (hm : X.mg x = some (.ref f)) (hk : PySem.W.keepIn X.K (.ref f) = true) (hb : Bnd X.K fd ps 0 ks is)
    (hkw : PDK X kws ak) (hdb : (x == ("__debug__" : Str)) = false := by decide)
    (hall : (backToKw pos (keywordEach kws X.env)).all (·.1.isSome) = true := by rfl) (hks : (backToKw pos (keywordEach kws X.env)).filterMap (·.1) = ks := by rfl)
    (hpl : ((backTo pos (starEach [] X.env)).any (·.1) || (backToKw pos (keywordEach kws X.env)).any (·.1.isNone)) = false := by rfl)
    (hlen : ks.length = m := by rfl) :
    PDZ X W Z (.Call (.Name x p) [] kws pos) (dCallZ 0 m is fx aNil ak Z) := by
  subst hlen
  refine peImp (t := tCallXZ X.K W 0 ks.length is fx tNil (liftA X.K ak)) ⟨fun pins s σ H Q I h => ?_⟩ fun σ H Q h => ?_
  · refine wpAny_Call_Name_kw (ld_glob I hg hm ?_ hdb)
    refine PySem.W.callWith_KW0 (h₀ := X.base) I.ok.mod.kin hk hall (thn (hkw.run pos pins s σ H _ I h) ?_) hpl
    rintro ws s2 ⟨zs, H2, I2, rz, l1, l2, q2⟩
    refine ⟨I2.kIn, ?_⟩
    rw [hks]
    exact run_x (us := []) tk F hr hb I2 .nil rz rfl l2 q2
  · obtain ⟨F0, ds, ms, P, R, S, h1, h2⟩ := liftZ_call σ H Q h
    exact h2 [] ms [] F0 H h1 R Stp.refl .nil
/-! statements -/
def dExprZ (de : ZD → DE) : DTS := fun E ds ms => de E.ex ds ms fun _ m => E.nx ds m
def dRetZ (de : ZD → DE) : DTS := fun E ds ms => de E.ex ds ms E.rt
def dAsgZ (de : ZD → DE) (g : DG) : DTS := fun E ds ms => de E.ex ds ms fun d m => g d ds fun ds1 => E.nx ds1 m
variable {dz : ZD → DE}
theorem px_exprZ (he : ∀ Z, PDZ X W Z e (dz Z)) (hs : swapsWith e none pos.line X.env = pure false := by rfl) : PX X W (.Expr e pos) (dExprZ dz) :=
  ⟨fun pins s σ H D I ⟨F, ds, ms, E, R, S, h, n, r, k, q, x⟩ => (ps_expr (he E.ex) hs).run pins s σ H D I
    ⟨F, ds, ms, _, R, S, h, fun d m v F1 H1 p1 R1 s1 r1 => n ds m σ F1 H1 p1 R1 s1 (S.mono s1.sub), fun c ns xs m cv d ws F1 H1 z R1 s1 hn hx hd => x c ns xs ds m cv d ws σ F1 H1 z R1 s1 (S.mono s1.sub) hn hx hd⟩⟩
theorem px_retZ (he : ∀ Z, PDZ X W Z e (dz Z)) : PX X W (.Return (some e) pos) (dRetZ dz) :=
  ⟨fun pins s σ H D I ⟨F, ds, ms, E, R, S, h, n, r, k, q, x⟩ => (ps_ret (he E.ex)).run pins s σ H D I
    ⟨F, ds, ms, _, R, S, h, fun d m v F1 H1 p1 R1 s1 r1 => r d m v F1 H1 p1 R1 s1 r1, fun c ns xs m cv d ws F1 H1 z R1 s1 hn hx hd => x c ns xs ds m cv d ws σ F1 H1 z R1 s1 (S.mono s1.sub) hn hx hd⟩⟩
theorem px_setZ {i : Nat} {x : Str} {pos' : Pos} (hN : X.N.Nodup) (hi : X.N[i]? = some x) (hx : Loc X.env.scope x) (he : ∀ Z, PDZ X W Z e (dz Z)) (hs : swapsWith e (some (.Name x pos')) pos.line X.env = pure false := by rfl)
    (hf : X.fn x = true ∨ X.env.scope.names.lookup x = some .local := by first | exact .inl rfl | exact .inr rfl | assumption) : PX X W (.Assign [.Name x pos'] e pos) (dAsgZ dz (sName i)) :=
  ⟨fun pins s σ H D I ⟨F, ds, ms, E, R, S, h, n, r, k, q, x⟩ => (ps_set hN hi hx (he E.ex) hs hf).run pins s σ H D I
    ⟨F, ds, ms, _, R, S, h, fun d m v F1 H1 p1 R1 s1 r1 => n _ m _ F1 H1 p1 R1 s1 (Sl.set r1 i (S.mono s1.sub)), fun c ns xs m cv d ws F1 H1 z R1 s1 hn hx hd => x c ns xs ds m cv d ws σ F1 H1 z R1 s1 (S.mono s1.sub) hn hx hd⟩⟩
theorem px_asgZ {tg : Expr} {g : TG} {dg : DG} {vs : List Nat} (he : ∀ Z, PDZ X W Z e (dz Z)) (hg : PG X tg g) (hd : TgD X.K g dg vs) (hs : swapsWithSole [tg] e pos.line X.env = pure false := by rfl) (hw : swappedStores [tg] e X.env = pure none := by rfl)
    (h1 : (assignEach [tg] X.env).map (·.2) = [assign tg X.env] := by rfl) : PX X W (.Assign [tg] e pos) (dAsgZ dz dg) :=
  ⟨fun pins s σ H D I ⟨F, ds, ms, E, R, S, h, n, r, k, q, x⟩ => (ps_asg (he E.ex) hg hs hw h1).run pins s σ H D I
    ⟨F, ds, ms, _, R, S, h, fun d m v F1 H1 p1 R1 s1 r1 => hd.snd v σ F1 H1 _ d ds _ R1.sub (S.mono s1.sub) r1 p1 fun ds1 σ1 h1 S1 => n ds1 m σ1 F1 H1 h1 R1 s1 S1, fun c ns xs m cv d ws F1 H1 z R1 s1 hn hx hd => x c ns xs ds m cv d ws σ F1 H1 z R1 s1 (S.mono s1.sub) hn hx hd⟩⟩
end
end DL

namespace DL
open PySem PySem.Spec PyProof.Rows L2

/-! ### what the top says of any own class of exceptions -/
structure ExB (K : PySem.W.Frag) (c : Str) (C : Addr) : Prop where
  ns : PySem.W.nsIn K mainGlobals c = some (some (.ref C))
  kp : PySem.W.keepIn K (.ref C) = true
  sb : PySem.W.subIn K (.ref C) (.type "BaseException") = some true
  ty : PySem.W.typeIn K (.ref C) = some (.type "type")
  cc : ExcC K C
section
variable {K : PySem.W.Frag} {c1 c2 f : Str} {b1 : Bool} {C C2 : Addr} {cw : Value} {ml : List (Str × Bool)}
theorem mlE_b (E1 : ExB K c1 C) (E2 : ExB K c2 C2) (h : PySem.W.subIn K (.ref C) (.ref C2) = some b1) (r : MlE K (.ref C2) ml) : MlE K (.ref C2) ((c1, b1) :: ml) := fun c b cv hl hn => by
  rcases ml_split hl with ⟨rfl, rfl⟩ | hl
  · rw [E1.ns] at hn
    cases hn
    exact PySem.W.exm_ref E2.sb E2.cc.hd E2.ty h
  · exact r c b cv hl hn
theorem mlK_b (E1 : ExB K c1 C) (h : PySem.W.kitOne K (.ref C) cw = some b1) (r : MlK K cw ml) : MlK K cw ((c1, b1) :: ml) := mlK_cons E1.ns E1.cc h r
theorem mlF_b (E1 : ExB K c1 C) (h : PySem.W.findIn K (.ref C) f = some none) (r : MlF K f ml) : MlF K f ((c1, b1) :: ml) := mlF_cons E1.ns E1.cc h r
end
/-! ### an __init__ by its text -/
def clsInit (s : Stmt) : Stmt := match s with
  | .ClassDef _ _ _ b _ _ _ _ _ _ _ => (b.find? fun t => match t with | .FunctionDef .. => true | _ => false).getD (.Pass ⟨0, 0, 0, 0⟩)
  | _ => .Pass ⟨0, 0, 0, 0⟩
structure InitT (st : Stmt) (fs : List Str) : Prop where
  form : ∃ m j p0 p1 p2 p3 p4 p5 qs, defBody st = (supSt m j p0 p1 p2 p3 p4 p5 :: (fs.zip qs).map fun z => fldSt z.1 z.2) ∧ fs.length = qs.length ∧
    ∀ env : Env, ∃ pl : Sem Bool, eval (.Call (.Attribute (.Call (.Name "super" p0) [] [] p1) "__init__" p2) [.Constant (.str m) j p3] [] p4) env = (do
      let ov ← attributeBase (.Call (.Name "super" p0) [] [] p1) "__init__" env (eval (.Call (.Name "super" p0) [] [] p1) env)
      standAt p2.atName
      let (f, first) ← holding [ov] (getMethod ov "__init__" pl)
      callWith p4 f first (backTo p4 (starEach [.Constant (.str m) j p3] env)) [])
  k1 : (defScope st).names.lookup ("super" : Str) = some .globalImplicit
  k2 : (defScope st).names.lookup ("__class__" : Str) = some .free
  k3 : (defScope st).names.lookup ("self" : Str) = some .local
  k4 : ∀ f ∈ fs, (defScope st).names.lookup f = some .local
  k5 : (defScope st).kind = .function
  k6 : ∀ y ∈ (defScope st).names, y.2 ≠ .cell
  k7 : (defScope st).isCoroutine = false
  k8 : (defScope st).isGenerator = false
  k9 : ∃ ar, ((defArgs st).posonlyargs ++ (defArgs st).args).head? = some ar ∧ ar.arg = "self"
  bind : ∀ (name qual : Str) (kV doc pm : Value) (an : Option Addr) (cdv ct : Value) (cc : Addr) (v : Value) (us : List Value), us.length = fs.length →
    bindArgs (PySem.W.ksFn name qual (defArgs st) (defBody st) (defScope st) .none kV doc pm an cdv ct cc) ⟨v :: us, []⟩ = pure ((("self" : Str), v) :: fs.zip us)
  dist : fs.Nodup ∧ ("self" : Str) ∉ fs ∧ fs ≠ [] ∧ fs.length ≤ 5 ∧ ∀ f ∈ fs, (f == ("__debug__" : Str)) = false
theorem initF_mk {K : PySem.W.Frag} {fI cc cda : Addr} {st : Stmt} {fs : List Str} {name qual : Str} {kV doc pm ct oc : Value} {an od : Option Addr} {osl : Array (Option Value)} (T : InitT st fs)
    (lk : K.lookup fI = some ⟨oc, od, .func (PySem.W.ksFn name qual (defArgs st) (defBody st) (defScope st) .none kV doc pm an (.ref cda) ct cc), osl⟩) (cd : PySem.W.codeIn K (.ref cda) qual = true) :
    InitF K fI cc cda fs (PySem.W.ksFn name qual (defArgs st) (defBody st) (defScope st) .none kV doc pm an (.ref cda) ct cc) := by
  obtain ⟨m, j, p0, p1, p2, p3, p4, p5, qs, e, hl, he⟩ := T.form
  refine ⟨⟨_, _, _, lk⟩, cd, ⟨name, qual, defArgs st, m, j, p0, p1, p2, p3, p4, p5, qs, defScope st, .none, kV, doc, pm, an, ct, by rw [e], hl, T.k1, T.k2, T.k3, T.k4, T.k5, T.k6, T.k7, T.k8, T.k9, he⟩, fun s v us hu => .of_eq (T.bind _ _ _ _ _ _ _ _ _ v us hu), T.dist⟩

/-! ### str(..) of data -/
def cStr : CF := fun xs ms P => match xs with
  | [.str x] => P (.str x) ms
  | [d] => Shw d ∧ P (.str (repS d)) ms
  | _ => False
def rStrD (K : PySem.W.Frag) : List V → Hp → VK → Prop := fun xs H Q => (∃ x, xs = [.str x] ∧ Q (.str x) H) ∨ ∃ F x d, xs = [x] ∧ (∀ y, d ≠ .str y) ∧ Sub F H ∧ OneR K F ∧ DR K F x d ∧ Shw d ∧ Q (.str (repS d)) H
theorem toPy_str {d : D} {y : Str} (e : toPy d = some (.str y)) : d = .str y := by
  cases d with
  | str x => cases e; rfl
  | lst xs => unfold toPy at e; cases h : toPys xs <;> rw [h] at e <;> cases e
  | tup xs => unfold toPy at e; cases h : toPys xs <;> rw [h] at e <;> cases e
  | fro xs => unfold toPy at e; cases h : toPys xs <;> rw [h] at e <;> cases e
  | _ => cases e
theorem call_strD {X : Cx} {k : Nat} (hr : RoomG k X.A) : CallR X (.type "str") (rStrD X.K) := by
  intro pins s σ H xs us Q I r h
  rcases h with ⟨x, rfl, q⟩ | ⟨F, x, d, rfl, ns, sb, one, hd, ⟨p, e, z1, z3, z4⟩, q⟩
  · obtain ⟨u, rfl, t, rfl⟩ := vals1 r
    exact PySem.P.str_of_str ⟨.str _, H, I, ⟨_, rfl⟩, q⟩
  · obtain ⟨u, rfl, ru⟩ := vals1 r
    obtain ⟨as, rd, ou⟩ := DR.readsA I sb d p x u hd e ru
    have z2 : p.hasDict = true → sysModules ∉ as := fun _ hm => (ou _ hm).not1 one rfl
    have er : repS d = p.shown := by unfold repS; rw [e]
    rw [er] at q
    have hu : X.A.units + (p.depth + 3) < cLine := by have := hr.r.un; omega
    cases rd with
    | none => exact PySem.P.str_of_none ⟨.str _, H, I.tok _, ⟨_, rfl⟩, q⟩
    | bool b => exact PySem.P.str_of_bool ⟨.str _, H, I.tok _, ⟨_, rfl⟩, q⟩
    | int i t => exact PySem.P.str_of_int (of_decide_eq_true z1) ⟨.str _, H, I.tok _, ⟨_, rfl⟩, q⟩
    | str y t => exact absurd (toPy_str e) (ns y)
    | list h1 h2 h3 h4 => exact str_of_reads (.list h1 h2 h3 h4) z1 z2 hr.g hu (fun _ _ e => e) (fun h' t tk hk => ⟨.str _, H, I.kept hk, ⟨_, rfl⟩, q⟩) z4
    | tuple h1 h2 h3 h4 => exact str_of_reads (.tuple h1 h2 h3 h4) z1 z2 hr.g hu (fun _ _ e => e) (fun h' t tk hk => ⟨.str _, H, I.kept hk, ⟨_, rfl⟩, q⟩) z4
    | dict h1 h2 h3 h4 h5 => exact str_of_reads (.dict h1 h2 h3 h4 h5) z1 z2 hr.g hu (fun _ _ e => e) (fun h' t tk hk => ⟨.str _, H, I.kept hk, ⟨_, rfl⟩, q⟩) z4
theorem cal_str {K : PySem.W.Frag} : CalD K (rStrD K) cStr := fun F H ms vs xs P Q R r h q => by
  cases r with
  | nil => exact h.elim
  | cons rd rs =>
  cases rs with
  | cons _ _ => unfold cStr at h; split at h <;> first | exact h.elim | simp_all
  | nil =>
    cases rd with
    | str x => exact .inl ⟨x, rfl, q _ ms _ F H h R Stp.refl (.str _)⟩
    | non => exact .inr ⟨F, _, .non, rfl, (fun _ z => by cases z), R.sub, R.one, .non, h.1, q _ ms _ F H h.2 R Stp.refl (.str _)⟩
    | bl b => exact .inr ⟨F, _, .bl b, rfl, (fun _ z => by cases z), R.sub, R.one, .bl b, h.1, q _ ms _ F H h.2 R Stp.refl (.str _)⟩
    | int i => exact .inr ⟨F, _, .int i, rfl, (fun _ z => by cases z), R.sub, R.one, .int i, h.1, q _ ms _ F H h.2 R Stp.refl (.str _)⟩
    | lst ha hs => exact .inr ⟨F, _, _, rfl, (fun _ z => by cases z), R.sub, R.one, .lst ha hs, h.1, q _ ms _ F H h.2 R Stp.refl (.str _)⟩
    | tup ha hs => exact .inr ⟨F, _, _, rfl, (fun _ z => by cases z), R.sub, R.one, .tup ha hs, h.1, q _ ms _ F H h.2 R Stp.refl (.str _)⟩
    | fro ha hs => exact .inr ⟨F, _, _, rfl, (fun _ z => by cases z), R.sub, R.one, .fro ha hs, h.1, q _ ms _ F H h.2 R Stp.refl (.str _)⟩
    | edic ha => exact .inr ⟨F, _, _, rfl, (fun _ z => by cases z), R.sub, R.one, .edic ha, h.1, q _ ms _ F H h.2 R Stp.refl (.str _)⟩
    | opq v => obtain ⟨⟨p, e, _⟩, _⟩ := h; cases e
    | dct _ => obtain ⟨⟨p, e, _⟩, _⟩ := h; cases e
    | exc _ _ _ _ => obtain ⟨⟨p, e, _⟩, _⟩ := h; cases e

/-! ### a op b op c -/
def dChain (f f' : OF) (da db dc : DE) : DE := fun ds ms P => da ds ms fun x m1 => db ds m1 fun y m2 => f x y m2 fun z m3 => match z with
  | .bl k => if k = true then dc ds m3 fun w m4 => f' y w m4 P else P (.bl false) m3
  | _ => False
section
variable {X : Cx} {a b c : Expr} {da db dc : DE} {op op' : CmpOp} {r r' : R2} {f f' : OF} {pos : Pos}
theorem lift_chain {K : PySem.W.Frag} (hf : OpD K r f) (hf' : OpD K r' f') : ∀ σ H Q, lift K (dChain f f' da db dc) σ H Q → tChain r r' (lift K da) (lift K db) (lift K dc) σ H Q := fun σ H Q ⟨F, ds, ms, P, R, S, h1, h2⟩ =>
  ⟨F, ds, ms, _, R, S, h1, fun dx m1 x F1 H1 p1 R1 s1 r1 => ⟨F1, ds, m1, _, R1, S.mono s1.sub, p1, fun dy m2 y F2 H2 p2 R2 s2 r2 => hf F2 H2 m2 x y dx dy _ _ R2 (r1.mono s2.sub) r2 p2 fun dz m3 z F3 H3 p3 R3 s3 r3 => by
    cases r3 with
    | bl k =>
      refine ⟨k, rfl, ?_⟩
      cases k with
      | true =>
        have s13 := (s1.trans s2).trans s3
        simp only [if_true] at p3 ⊢
        exact ⟨F3, ds, m3, _, R3, S.mono s13.sub, p3, fun dw m4 w F4 H4 p4 R4 s4 r4 => hf' F4 H4 m4 y w dy dw _ _ R4 ((r2.mono s3.sub).mono s4.sub) r4 p4 fun d m5 v F5 H5 p5 R5 s5 r5 => h2 d m5 v F5 H5 p5 R5 ((s13.trans s4).trans s5) r5⟩
      | false =>
        simp only [if_neg Bool.false_ne_true] at p3 ⊢
        exact h2 _ m3 _ F3 H3 p3 R3 ((s1.trans s2).trans s3) (.bl false)
    | _ => exact p3.elim⟩⟩
theorem pd_chain (ho : OpR X (compareOp op) r) (hf : OpD X.K r f) (ho' : OpR X (compareOp op') r') (hf' : OpD X.K r' f') (ha : PD X a da) (hb : PD X b db) (hc : PD X c dc)
    (hm : lastMarks [op, op'] [b, c] = false := by with_unfolding_all rfl) : PD X (.Compare a [op, op'] [b, c] pos) (dChain f f' da db dc) := peImp (pe_chain ho ho' ha hb hc hm) (lift_chain hf hf')
theorem pdt_chain (ho : OpR X (compareOp op) r) (hf : OpD X.K r f) (ho' : OpR X (compareOp op') r') (hf' : OpD X.K r' f') (ha : PD X a da) (hb : PD X b db) (hc : PD X c dc)
    (hm : lastMarks [op, op'] [b, c] = false := by with_unfolding_all rfl) : PDT X (.Compare a [op, op'] [b, c] pos) (dTest (dChain f f' da db dc)) := ptImp (pt_chain ho ho' ha hb hc hm) fun σ H Q ⟨F, ds, ms, P, R, S, h1, h2⟩ =>
  lift_chain hf hf' σ H _ ⟨F, ds, ms, _, R, S, h1, fun d m v F1 H1 p1 R1 s1 r1 => by
    cases r1 with
    | bl k => exact ⟨k, rfl, h2 k m F1 H1 p1 R1 s1⟩
    | _ => exact p1.elim⟩
end
end DL

namespace DL
open PySem PySem.Spec PyProof.Rows L2

/-! what stands there, told apart by its kind -/
def StG (t : DTS) (E : EN) (ds : DS) (ms : MS) : Prop := t E ds ms
def ExG (de : DE) (ds : DS) (ms : MS) (P : D → MS → Prop) : Prop := de ds ms P
def TsG (dt : DT) (ds : DS) (ms : MS) (P : Bool → MS → Prop) : Prop := dt ds ms P
def ArG (da : DA) (ds : DS) (ms : MS) (P : List D → MS → Prop) : Prop := da ds ms P
def ItG (di : DI) (ds : DS) (ms : MS) (P : List D → MS → Prop) : Prop := di ds ms P
def OgG (o : DO) (ds : DS) (ms : MS) (P : Option Int → MS → Prop) : Prop := o ds ms P
def TgG (g : DG) (d : D) (ds : DS) (P : DS → Prop) : Prop := g d ds P
def TgsG (g : DGs) (d : List D) (ds : DS) (P : DS → Prop) : Prop := g d ds P
def OpG (f : OF) (x y : D) (ms : MS) (P : D → MS → Prop) : Prop := f x y ms P
def CbG (f : CF) (xs : List D) (ms : MS) (P : D → MS → Prop) : Prop := f xs ms P
def SlG (x : D) (l u : Option Int) (ms : MS) (P : D → MS → Prop) : Prop := fSl x l u ms P
def NxG (E : EN) (ds : DS) (ms : MS) : Prop := E.nx ds ms
def RtG (E : EN) (d : D) (ms : MS) : Prop := E.rt d ms
def BkG (E : EN) (ds : DS) (ms : MS) : Prop := E.bk ds ms
def CtG (E : EN) (ds : DS) (ms : MS) : Prop := E.ct ds ms
def XcG (E : EN) (c : Str) (ns : List Str) (xs : List D) (ds : DS) (ms : MS) : Prop := E.ex c ns xs ds ms
/-- ends with another next, as a loop's body has them, with other exceptions -/
def EN.wn (E : EN) (f : DS → MS → Prop) : EN := { E with nx := f }
def EN.lp (E : EN) (f : DS → MS → Prop) : EN := { E with nx := f, ct := f, bk := E.nx }
def EN.wx (E : EN) (f : Str → List Str → List D → DS → MS → Prop) : EN := { E with ex := f }
section
variable {E : EN} {f : DS → MS → Prop} {fx : Str → List Str → List D → DS → MS → Prop} {ds : DS} {ms : MS} {d : D} {c : Str} {ns : List Str} {xs : List D} {un ub uc : DS → MS → Prop} {ur : D → MS → Prop} {ux : Str → List Str → List D → DS → MS → Prop}
theorem n_wn (h : f ds ms) : NxG (EN.wn E f) ds ms := h
theorem n_lp (h : f ds ms) : NxG (EN.lp E f) ds ms := h
theorem n_wx (h : NxG E ds ms) : NxG (EN.wx E fx) ds ms := h
theorem n_mk (h : un ds ms) : NxG ⟨un, ur, ub, uc, ux⟩ ds ms := h
theorem t_wn (h : RtG E d ms) : RtG (EN.wn E f) d ms := h
theorem t_lp (h : RtG E d ms) : RtG (EN.lp E f) d ms := h
theorem t_wx (h : RtG E d ms) : RtG (EN.wx E fx) d ms := h
theorem t_mk (h : ur d ms) : RtG ⟨un, ur, ub, uc, ux⟩ d ms := h
theorem b_wn (h : BkG E ds ms) : BkG (EN.wn E f) ds ms := h
theorem b_lp (h : NxG E ds ms) : BkG (EN.lp E f) ds ms := h
theorem b_wx (h : BkG E ds ms) : BkG (EN.wx E fx) ds ms := h
theorem c_wn (h : CtG E ds ms) : CtG (EN.wn E f) ds ms := h
theorem c_lp (h : f ds ms) : CtG (EN.lp E f) ds ms := h
theorem c_wx (h : CtG E ds ms) : CtG (EN.wx E fx) ds ms := h
theorem x_wn (h : XcG E c ns xs ds ms) : XcG (EN.wn E f) c ns xs ds ms := h
theorem x_lp (h : XcG E c ns xs ds ms) : XcG (EN.lp E f) c ns xs ds ms := h
theorem x_wx (h : fx c ns xs ds ms) : XcG (EN.wx E fx) c ns xs ds ms := h
theorem x_mk (h : ux c ns xs ds ms) : XcG ⟨un, ur, ub, uc, ux⟩ c ns xs ds ms := h
end
section
variable {t : DTS} {E : EN} {ds : DS} {ms : MS} {de : DE} {P : D → MS → Prop} {dt : DT} {PT : Bool → MS → Prop} {da : DA} {PA : List D → MS → Prop} {di : DI} {o : DO} {PO : Option Int → MS → Prop} {g : DG} {gs : DGs} {d x y : D} {xs : List D} {PS : DS → Prop} {f : OF} {c : CF} {l u : Option Int}
theorem StG.out (h : t E ds ms) : StG t E ds ms := h
theorem ExG.out (h : de ds ms P) : ExG de ds ms P := h
theorem TsG.out (h : dt ds ms PT) : TsG dt ds ms PT := h
theorem ArG.out (h : da ds ms PA) : ArG da ds ms PA := h
theorem ItG.out (h : di ds ms PA) : ItG di ds ms PA := h
theorem OgG.out (h : o ds ms PO) : OgG o ds ms PO := h
theorem TgG.out (h : g d ds PS) : TgG g d ds PS := h
theorem TgsG.out (h : gs xs ds PS) : TgsG gs xs ds PS := h
theorem OpG.out (h : f x y ms P) : OpG f x y ms P := h
theorem CbG.out (h : c xs ms P) : CbG c xs ms P := h
theorem SlG.out (h : fSl x l u ms P) : SlG x l u ms P := h
theorem NxG.out (h : E.nx ds ms) : NxG E ds ms := h
end
/-! ### readings, step by step: what is to be shown ahead of each -/
section
variable {E : EN} {ds ds' : DS} {ms m : MS} {P : D → MS → Prop} {A B : Prop} {t u tb : DTS} {de da db dc : DE} {dt du : DT} {g : DG} {gs : DGs} {aa ak : DA} {di : DI} {d x y : D} {xs ys zs : List D} {n k i j : Nat} {b : Bool} {PT : Bool → MS → Prop} {PA : List D → MS → Prop} {PS : DS → Prop} {PO : Option Int → MS → Prop}
theorem w_seq (h : StG t (EN.wn E (StG u E)) ds ms) : dSeq t u E ds ms := h
theorem w_nx {un ub uc : DS → MS → Prop} {ur : D → MS → Prop} {ux : Str → List Str → List D → DS → MS → Prop} (h : un ds ms) : EN.nx ⟨un, ur, ub, uc, ux⟩ ds ms := h
theorem w_rt {un ub uc : DS → MS → Prop} {ur : D → MS → Prop} {ux : Str → List Str → List D → DS → MS → Prop} (h : ur d ms) : EN.rt ⟨un, ur, ub, uc, ux⟩ d ms := h
theorem w_bk {un ub uc : DS → MS → Prop} {ur : D → MS → Prop} {ux : Str → List Str → List D → DS → MS → Prop} (h : ub ds ms) : EN.bk ⟨un, ur, ub, uc, ux⟩ ds ms := h
theorem w_ct {un ub uc : DS → MS → Prop} {ur : D → MS → Prop} {ux : Str → List Str → List D → DS → MS → Prop} (h : uc ds ms) : EN.ct ⟨un, ur, ub, uc, ux⟩ ds ms := h
theorem w_ex {un ub uc : DS → MS → Prop} {ur : D → MS → Prop} {ux : Str → List Str → List D → DS → MS → Prop} {c : Str} {ns : List Str} (h : ux c ns xs ds ms) : EN.ex ⟨un, ur, ub, uc, ux⟩ c ns xs ds ms := h
theorem w_next (h : NxG E ds ms) : dNext E ds ms := h
theorem w_break (h : BkG E ds ms) : dBreak E ds ms := h
theorem w_cont (h : CtG E ds ms) : dCont E ds ms := h
theorem w_ret (h : ExG de ds ms (RtG E)) : dRet de E ds ms := h
theorem w_retN (h : RtG E .non ms) : dRetN E ds ms := h
theorem w_drop (h : ExG de ds ms fun _ m => NxG E ds m) : dDrop de E ds ms := h
theorem w_ifS (h : TsG dt ds ms fun b m => if b = true then StG t E ds m else StG u E ds m) : dIfS dt t u E ds ms := h
theorem w_asg (h : ExG de ds ms fun d m => TgG g d ds fun ds1 => NxG E ds1 m) : dAsg de g E ds ms := h
def mPar (i j : Nat) (E : EN) (ds : DS) (xs : List D) (m : MS) : Prop := match xs with
  | [x, y] => E.nx (setSlot (setSlot ds i x) j y) m
  | _ => False
theorem w_par (h : ArG aa ds ms fun xs m => mPar i j E ds xs m) : dPar i j aa E ds ms := h
theorem w_mPar (e : setSlot (setSlot ds i x) j y = ds') (h : NxG E ds' m) : mPar i j E ds [x, y] m := by subst e; exact h
theorem w_for (h : ItG di ds ms fun xs m => loopD g tb E xs ds m) : dFor di g tb E ds ms := h
theorem w_raise {c : Str} (h : XcG E c [] [] ds ms) : dRaise c E ds ms := h
theorem w_raiseI {c : Str} {fs : List Str} (h : ArG aa ds ms fun xs m => xs.length = fs.length ∧ XcG E c fs xs ds m) : dRaiseI c fs aa E ds ms := h
theorem w_exprZ {dz : ZD → DE} (h : ExG (dz (XcG E)) ds ms fun _ m => NxG E ds m) : dExprZ dz E ds ms := h
theorem w_retZ {dz : ZD → DE} (h : ExG (dz (XcG E)) ds ms (RtG E)) : dRetZ dz E ds ms := h
theorem w_asgZ {dz : ZD → DE} (h : ExG (dz (XcG E)) ds ms fun d m => TgG g d ds fun ds1 => NxG E ds1 m) : dAsgZ dz g E ds ms := h
def mTry (ml : List (Str × Bool)) (i j : Nat) (E : EN) (c : Str) (ns : List Str) (xs : List D) (ds : DS) (ms : MS) : Prop := match ml.lookup c with
  | some true => E.nx ((setSlot ds j (.exc c ns xs)).set i none) ms
  | some false => E.ex c ns xs ds ms
  | none => False
theorem w_try {ml : List (Str × Bool)} (h : StG tb (EN.wx E (mTry ml i j E)) ds ms) : dTry ml i j tb E ds ms := h
theorem w_try0 {ml : List (Str × Bool)} (h : StG (dTry ml i j tb) (EN.wx E fun _ _ _ _ _ => False) ds ms) : dTry0 ml i j tb E ds ms := h
theorem w_mTry {ml : List (Str × Bool)} {c : Str} {ns : List Str} (e : ml.lookup c = some true) (e2 : (setSlot ds j (.exc c ns xs)).set i none = ds') (h : NxG E ds' ms) : mTry ml i j E c ns xs ds ms := by
  unfold mTry; rw [e]; subst e2; exact h
theorem w_mTryF {ml : List (Str × Bool)} {c : Str} {ns : List Str} (e : ml.lookup c = some false) (h : XcG E c ns xs ds ms) : mTry ml i j E c ns xs ds ms := by
  unfold mTry; rw [e]; exact h
theorem w_loopC (h : TgG g x ds fun ds1 => StG tb (EN.lp E (loopD g tb E ys)) ds1 ms) : loopD g tb E (x :: ys) ds ms := h
theorem w_loopN (h : NxG E ds ms) : loopD g tb E [] ds ms := h
theorem rng_2 : rng 0 (Int.toNat 2) = [.int 0, .int 1] := rfl
theorem rng_3 : rng 0 (Int.toNat 3) = [.int 0, .int 1, .int 2] := rfl
theorem rng_4 : rng 0 (Int.toNat 4) = [.int 0, .int 1, .int 2, .int 3] := rfl
/-! targets -/
theorem w_name (e : setSlot ds i d = ds') (h : PS ds') : sName i d ds PS := by subst e; exact h
theorem w_stup (e : xs.length = n) (h : TgsG gs xs ds PS) : sTup n gs (.tup xs) ds PS := ⟨e, h⟩
theorem w_scons (h : TgG g x ds fun ds1 => TgsG gs ys ds1 PS) : sCons g gs (x :: ys) ds PS := h
theorem w_snil (h : PS ds) : sNil [] ds PS := h
/-! expressions -/
theorem w_c (h : P d ms) : dC d ds ms P := h
theorem w_var (e : slot ds i = some d) (h : P d ms) : dVar i ds ms P := by unfold dVar; rw [e]; exact h
theorem w_op {f : OF} (h : ExG da ds ms fun x m => ExG db ds m fun y m2 => OpG f x y m2 P) : dOp f da db ds ms P := h
theorem w_tup (h : ArG aa ds ms fun xs m => xs.length ≤ sizeLine ∧ P (.tup xs) m) : dTup aa ds ms P := h
theorem w_lst (h : ArG aa ds ms fun xs m => xs.length ≤ sizeLine ∧ P (.lst xs) m) : dLst aa ds ms P := h
theorem w_lstM (h : ArG aa ds ms fun xs m => xs.length ≤ sizeLine ∧ ∀ p, (∀ q ∈ m, q.1 ≠ p) → P (.opq (.ref p)) ((p, xs) :: m)) : dLstM aa ds ms P := h
theorem w_size (e : n ≤ sizeLine) (h : A) : n ≤ sizeLine ∧ A := ⟨e, h⟩
theorem w_sizeL (e : n < sizeLine) (h : A) : n < sizeLine ∧ A := ⟨e, h⟩
theorem w_anil (h : PA [] ms) : aNil ds ms PA := h
theorem w_acons (h : ExG de ds ms fun x m1 => ArG aa ds m1 fun xs m2 => PA (x :: xs) m2) : aCons de aa ds ms PA := h
theorem w_edic (h : P .edic ms) : dEdic ds ms P := h
def mNeg (d : D) (m : MS) (P : D → MS → Prop) : Prop := match d with
  | .int i => P (.int (-i)) m
  | _ => False
theorem w_neg (h : ExG de ds ms fun x m => mNeg x m P) : dNeg de ds ms P := h
theorem w_mNeg {i : Int} (h : P (.int (-i)) m) : mNeg (.int i) m P := h
def mNot (d : D) (m : MS) (P : D → MS → Prop) : Prop := match d with
  | .bl b => P (.bl (!b)) m
  | _ => False
theorem w_notV (h : ExG de ds ms fun x m => mNot x m P) : dNotV de ds ms P := h
theorem w_mNotT (e : b = true) (h : P (.bl false) m) : mNot (.bl b) m P := by subst e; exact h
theorem w_mNotF (e : b = false) (h : P (.bl true) m) : mNot (.bl b) m P := by subst e; exact h
theorem w_mNot (h : P (.bl (!b)) m) : mNot (.bl b) m P := h
def mAnd (db : DE) (ds : DS) (d : D) (m : MS) (P : D → MS → Prop) : Prop := match d with
  | .bl b => if b = true then db ds m P else P (.bl false) m
  | _ => False
theorem w_andV (h : ExG da ds ms fun x m => mAnd db ds x m P) : dAndV da db ds ms P := h
theorem w_mAnd (h : if b = true then ExG db ds m P else P (.bl false) m) : mAnd db ds (.bl b) m P := h
def mOr (db : DE) (ds : DS) (d : D) (m : MS) (P : D → MS → Prop) : Prop := match d with
  | .bl b => if b = true then P (.bl true) m else db ds m P
  | _ => False
theorem w_orV (h : ExG da ds ms fun x m => mOr db ds x m P) : dOrV da db ds ms P := h
theorem w_mOr (h : if b = true then P (.bl true) m else ExG db ds m P) : mOr db ds (.bl b) m P := h
theorem w_if (h : TsG dt ds ms fun b m => if b = true then ExG da ds m P else ExG db ds m P) : dIf dt da db ds ms P := h
theorem w_iteT (e : b = true) (h : A) : if b = true then A else B := by rw [if_pos e]; exact h
theorem w_iteF (e : b = false) (h : B) : if b = true then A else B := by rw [if_neg (by rw [e]; decide)]; exact h
def mTest (d : D) (m : MS) (P : Bool → MS → Prop) : Prop := match d with
  | .bl b => P b m
  | _ => False
theorem w_test (h : ExG da ds ms fun x m => mTest x m PT) : dTest da ds ms PT := h
theorem w_mTest (h : PT b m) : mTest (.bl b) m PT := h
theorem w_yes (h : PT true ms) : dYes ds ms PT := h
theorem w_not (h : TsG dt ds ms fun b m => PT (!b) m) : dNot dt ds ms PT := h
theorem w_and (h : TsG dt ds ms fun b m => if b = true then TsG du ds m PT else PT false m) : dAnd dt du ds ms PT := h
theorem w_or (h : TsG dt ds ms fun b m => if b = true then PT true m else TsG du ds m PT) : dOr dt du ds ms PT := h
theorem w_tru (h : ExG da ds ms fun x m => truD x m fun b => PT b m) : dTru da ds ms PT := h
/-! calls -/
def mCall (n k : Nat) (is : List Nat) (fs : FS) (xs zs : List D) (m : MS) (P : D → MS → Prop) : Prop := xs.length = n ∧ zs.length = k ∧ fs (pick is (xs ++ zs)) m P
theorem w_call {is : List Nat} {fs : FS} (h : ArG aa ds ms fun xs m1 => ArG ak ds m1 fun zs m2 => mCall n k is fs xs zs m2 P) : dCall n k is fs aa ak ds ms P := h
theorem w_mCall {is : List Nat} {fs : FS} (e1 : xs.length = n) (e2 : zs.length = k) (e : pick is (xs ++ zs) = ys) (h : fs ys m P) : mCall n k is fs xs zs m P := ⟨e1, e2, by rw [e]; exact h⟩
def mCallZ (n k : Nat) (is : List Nat) (fx : FX) (Z : ZD) (ds : DS) (xs zs : List D) (m : MS) (P : D → MS → Prop) : Prop := xs.length = n ∧ zs.length = k ∧ fx (pick is (xs ++ zs)) m P fun c ns ys m' => Z c ns ys ds m'
theorem w_callZ {is : List Nat} {fx : FX} {Z : ZD} (h : ArG aa ds ms fun xs m1 => ArG ak ds m1 fun zs m2 => mCallZ n k is fx Z ds xs zs m2 P) : dCallZ n k is fx aa ak Z ds ms P := h
theorem w_mCallZ {is : List Nat} {fx : FX} {Z : ZD} (e1 : xs.length = n) (e2 : zs.length = k) (e : pick is (xs ++ zs) = ys) (h : fx ys m P fun c ns ys m' => Z c ns ys ds m') : mCallZ n k is fx Z ds xs zs m P := ⟨e1, e2, by rw [e]; exact h⟩
theorem w_cb {f : CF} (h : ArG aa ds ms fun xs m => CbG f xs m P) : dCB f aa ds ms P := h
/-! operators -/
section
variable {i j : Int} {a c : List D} {z w : Str} {lo hi : Option Int} {p : Addr}
theorem w_add_ii (h : P (.int (i + j)) ms) : fAdd (.int i) (.int j) ms P := h
theorem w_add_ss (h : z.length + w.length ≤ sizeLine ∧ P (.str (z ++ w)) ms) : fAdd (.str z) (.str w) ms P := h
theorem w_add_ll (h : a.length + c.length ≤ sizeLine ∧ P (.lst (a ++ c)) ms) : fAdd (.lst a) (.lst c) ms P := h
theorem w_add_ol (e : look ms p = some a) (h : a.length + c.length ≤ sizeLine ∧ P (.lst (a ++ c)) ms) : fAdd (.opq (.ref p)) (.lst c) ms P := by unfold fAdd; simp only [e]; exact h
theorem w_add_tt (h : a.length + c.length ≤ sizeLine ∧ P (.tup (a ++ c)) ms) : fAdd (.tup a) (.tup c) ms P := h
theorem w_sub (h : P (.int (i - j)) ms) : fSub (.int i) (.int j) ms P := ⟨trivial, h⟩
theorem w_mul (h : CMulD i j ∧ P (.int (i * j)) ms) : fMul (.int i) (.int j) ms P := h
theorem w_mul_l (h : (-(2 ^ 63) ≤ i ∧ i < 2 ^ 63 ∧ a.length * i.toNat ≤ sizeLine) ∧ P (.lst (List.replicate i.toNat a).flatten) ms) : fMul (.lst a) (.int i) ms P := h
theorem w_div (h : CDivA i j ∧ P (.int (i.fdiv j)) ms) : fDiv (.int i) (.int j) ms P := h
theorem w_mod (h : j ≠ 0 ∧ P (.int (i.fmod j)) ms) : fMod (.int i) (.int j) ms P := h
theorem w_pow (e : 0 ≤ j ∧ j ≤ 1000000) {r : Int} (er : (10 : Int) ^ j.toNat = r) (h : P (.int r) ms) : fPow (.int 10) (.int j) ms P := ⟨⟨e.1, e.2, by decide⟩, by rw [← er] at h; exact h⟩
theorem w_lt (h : P (.bl (decide (i < j))) ms) : fLt (.int i) (.int j) ms P := ⟨trivial, h⟩
theorem w_le (h : P (.bl (decide (i ≤ j))) ms) : fLe (.int i) (.int j) ms P := ⟨trivial, h⟩
theorem w_gt (h : P (.bl (decide (j < i))) ms) : fGt (.int i) (.int j) ms P := ⟨trivial, h⟩
theorem w_ge (h : P (.bl (decide (j ≤ i))) ms) : fGe (.int i) (.int j) ms P := ⟨trivial, h⟩
theorem w_eq_ii (h : P (.bl (i == j)) ms) : fEq (.int i) (.int j) ms P := h
theorem w_eq_ss (h : P (.bl (z == w)) ms) : fEq (.str z) (.str w) ms P := h
theorem w_eq_l0 (h : P (.bl a.isEmpty) ms) : fEq (.lst a) (.lst []) ms P := h
theorem w_eq_bb {b c : Bool} (h : P (.bl (b == c)) ms) : fEq (.bl b) (.bl c) ms P := ⟨⟨_, rfl, rfl⟩, ⟨_, rfl, rfl⟩, by
  have e : eqD (.bl b) (.bl c) = (b == c) := by cases b <;> cases c <;> rfl
  rw [e]; exact h⟩
theorem w_eq_lc (h : ShD (.lst a) ∧ ShD (.lst (d :: c)) ∧ P (.bl (eqD (.lst a) (.lst (d :: c)))) ms) : fEq (.lst a) (.lst (d :: c)) ms P := h
theorem w_eq_tt (h : ShD (.tup a) ∧ ShD (.tup c) ∧ P (.bl (eqD (.tup a) (.tup c))) ms) : fEq (.tup a) (.tup c) ms P := h
theorem w_ne_ii (h : P (.bl (!(i == j))) ms) : fNe (.int i) (.int j) ms P := h
theorem w_ne_ss (h : P (.bl (!(z == w))) ms) : fNe (.str z) (.str w) ms P := h
theorem w_ne_l0 (h : P (.bl (!a.isEmpty)) ms) : fNe (.lst a) (.lst []) ms P := h
theorem w_ne_bb {b c : Bool} (h : P (.bl (!(b == c))) ms) : fNe (.bl b) (.bl c) ms P := ⟨⟨_, rfl, rfl⟩, ⟨_, rfl, rfl⟩, by
  have e : eqD (.bl b) (.bl c) = (b == c) := by cases b <;> cases c <;> rfl
  rw [e]; exact h⟩
theorem w_ne_lc (h : ShD (.lst a) ∧ ShD (.lst (d :: c)) ∧ P (.bl (!eqD (.lst a) (.lst (d :: c)))) ms) : fNe (.lst a) (.lst (d :: c)) ms P := h
theorem w_ne_tt (h : ShD (.tup a) ∧ ShD (.tup c) ∧ P (.bl (!eqD (.tup a) (.tup c))) ms) : fNe (.tup a) (.tup c) ms P := h
theorem w_in_l (h : InOk x a false ms P) : fIn x (.lst a) ms P := h
theorem w_in_t (h : InOk x a false ms P) : fIn x (.tup a) ms P := h
theorem w_notIn_l (h : InOk x a true ms P) : fNotIn x (.lst a) ms P := h
theorem w_notIn_t (h : InOk x a true ms P) : fNotIn x (.tup a) ms P := h
theorem w_ix_t (e : atI a i = some d) (h : P d ms) : fIx (.tup a) (.int i) ms P := by unfold fIx; simp only [e]; exact h
theorem w_ix_l (e : atI a i = some d) (h : P d ms) : fIx (.lst a) (.int i) ms P := by unfold fIx; simp only [asL, e]; exact h
theorem w_ix_f (e : atI a i = some d) (h : P d ms) : fIx (.fro a) (.int i) ms P := by unfold fIx; simp only [asL, e]; exact h
theorem w_ix_o (e0 : look ms p = some a) (e : atI a i = some d) (h : P d ms) : fIx (.opq (.ref p)) (.int i) ms P := by unfold fIx; simp only [asL, e0, e]; exact h
theorem w_ix_s {c : Nat} (e0 : z.length ≤ sizeLine) (e : atI z.cps.toList i = some c) (h : P (.str ⟨#[c]⟩) ms) : fIx (.str z) (.int i) ms P := by unfold fIx; simp only [e]; exact ⟨e0, h⟩
theorem w_at0 {α : Type} (x : α) (r : List α) : atI (x :: r) 0 = some x := by simp [atI, ixN]
theorem w_at1 {α : Type} (x y : α) (r : List α) : atI (x :: y :: r) 1 = some y := by
  have h : (1 : Int) < (r.length : Int) + 1 + 1 := by omega
  simp [atI, ixN, h]
theorem w_at2 {α : Type} (x y z : α) (r : List α) : atI (x :: y :: z :: r) 2 = some z := by
  have h : (2 : Int) < (r.length : Int) + 1 + 1 + 1 := by omega
  simp [atI, ixN, h]
theorem w_at3 {α : Type} (x y z u : α) (r : List α) : atI (x :: y :: z :: u :: r) 3 = some u := by
  have h : (3 : Int) < (r.length : Int) + 1 + 1 + 1 + 1 := by omega
  simp [atI, ixN, h]
theorem w_sl {ol oh : DO} (h : ExG de ds ms fun x m1 => OgG ol ds m1 fun l m2 => OgG oh ds m2 fun u m3 => SlG x l u m3 P) : dSl de ol oh ds ms P := h
theorem w_sl_l (h : P (.lst (cutL a lo hi)) ms) : fSl (.lst a) lo hi ms P := h
theorem w_sl_f (h : P (.lst (cutL a lo hi)) ms) : fSl (.fro a) lo hi ms P := h
theorem w_sl_t (h : P (.tup (cutL a lo hi)) ms) : fSl (.tup a) lo hi ms P := h
theorem w_sl_s (h : z.length ≤ sizeLine ∧ P (.str (cutS z lo hi)) ms) : fSl (.str z) lo hi ms P := h
theorem w_onone (h : PO none ms) : oNone ds ms PO := h
def mSome (d : D) (m : MS) (P : Option Int → MS → Prop) : Prop := match d with
  | .int i => P (some i) m
  | _ => False
theorem w_osome (h : ExG de ds ms fun d m => mSome d m PO) : oSome de ds ms PO := h
theorem w_mSome (h : PO (some i) m) : mSome (.int i) m PO := h
/-! built-ins -/
theorem w_len_l (h : P (.int a.length) ms) : cLen [.lst a] ms P := h
theorem w_len_f (h : P (.int a.length) ms) : cLen [.fro a] ms P := h
theorem w_len_t (h : P (.int a.length) ms) : cLen [.tup a] ms P := h
theorem w_len_s (h : z.length ≤ sizeLine ∧ P (.int z.length) ms) : cLen [.str z] ms P := h
theorem w_len_o (e : look ms p = some a) (h : P (.int a.length) ms) : cLen [.opq (.ref p)] ms P := by unfold cLen; simp only [asL, e]; exact h
theorem w_list_l (h : P (.lst a) ms) : cList [.lst a] ms P := h
theorem w_list_f (h : P (.lst a) ms) : cList [.fro a] ms P := h
theorem w_list_t (h : P (.lst a) ms) : cList [.tup a] ms P := h
theorem w_tuple_l (h : P (.tup a) ms) : cTuple [.lst a] ms P := h
theorem w_tuple_t (h : P (.tup a) ms) : cTuple [.tup a] ms P := h
theorem w_str_s (h : P (.str z) ms) : cStr [.str z] ms P := h
theorem w_str_l (h : Shw (.lst a) ∧ P (.str (repS (.lst a))) ms) : cStr [.lst a] ms P := h
theorem w_str_i (h : Shw (.int i) ∧ P (.str (repS (.int i))) ms) : cStr [.int i] ms P := h
theorem w_repr (h : Shw d ∧ P (.str (repS d)) ms) : cRepr [d] ms P := h
theorem w_abs (h : P (.int (if i < 0 then -i else i)) ms) : cAbs [.int i] ms P := h
theorem w_max2 (h : P (.int (if j > i then j else i)) ms) : cMax2 [.int i, .int j] ms P := h
theorem w_min2 (h : P (.int (if j < i then j else i)) ms) : cMin2 [.int i, .int j] ms P := h
theorem w_int_i (h : P (.int i) ms) : cInt1 [.int i] ms P := h
theorem w_int_b (h : P (.int (if b then 1 else 0)) ms) : cInt1 [.bl b] ms P := h
theorem w_all {bs : List Bool} (e : blsOf a = some bs) (h : P (.bl (bs.all id)) ms) : cAll [.lst a] ms P := by unfold cAll; simp only [e]; exact h
theorem w_any {bs : List Bool} (e : blsOf a = some bs) (h : P (.bl (bs.any id)) ms) : cAny [.lst a] ms P := by unfold cAny; simp only [e]; exact h
theorem w_sum {ns : List Int} (e : intsOf a = some ns) (h : P (.int ns.sum) ms) : cSum [.lst a] ms P := by unfold cSum; simp only [e]; exact h
/-! what is walked -/
def mSeq (d : D) (m : MS) (P : List D → MS → Prop) : Prop := match d with
  | .lst xs => P xs m
  | .fro xs => P xs m
  | _ => False
theorem w_iseq (h : ExG de ds ms fun d m => mSeq d m PA) : iSeq de ds ms PA := h
theorem w_mSeq (h : PA a m) : mSeq (.lst a) m PA := h
theorem w_mSeqF (h : PA a m) : mSeq (.fro a) m PA := h
def mTupI (d : D) (m : MS) (P : List D → MS → Prop) : Prop := match d with
  | .tup xs => P xs m
  | _ => False
theorem w_itup (h : ExG de ds ms fun d m => mTupI d m PA) : iTupD de ds ms PA := h
theorem w_mTupI (h : PA a m) : mTupI (.tup a) m PA := h
def mRng (xs : List D) (m : MS) (P : List D → MS → Prop) : Prop := match xs with
  | [.int j] => (-(2 ^ 62) ≤ j ∧ j < 2 ^ 62) ∧ P (rng 0 j.toNat) m
  | _ => False
theorem w_irng1 (h : ArG aa ds ms fun xs m => mRng xs m PA) : iRange1 aa ds ms PA := h
theorem w_mRng (e : -(2 ^ 62) ≤ j ∧ j < 2 ^ 62) (h : PA (rng 0 j.toNat) m) : mRng [.int j] m PA := ⟨e, h⟩
def mZip (xs : List D) (m : MS) (P : List D → MS → Prop) : Prop := match xs with
  | [.lst a, .lst b] => P (zipD a b) m
  | _ => False
theorem w_izip (h : ArG aa ds ms fun xs m => mZip xs m PA) : iZipD aa ds ms PA := h
theorem w_mZip (h : PA (zipD a c) m) : mZip [.lst a, .lst c] m PA := h
def mEnum (xs : List D) (m : MS) (P : List D → MS → Prop) : Prop := match xs with
  | [.lst a] => P (enumD a) m
  | _ => False
theorem w_ienum (h : ArG aa ds ms fun xs m => mEnum xs m PA) : iEnumD aa ds ms PA := h
theorem w_mEnum (h : PA (enumD a) m) : mEnum [.lst a] m PA := h
theorem w_lc {tt : DT} {te : DE} {vs : List Nat} (e : ∀ d, wipeD d vs = wipeD d vs) (h : ItG di ds ms fun xs m => compD g tt te (wipeD ds vs) xs [] m fun ys m' => P (.lst ys) m') : dLc di g tt te vs ds ms P := h
/-! isinstance, fields -/
def mIsi (T : Ty) (d : D) (m : MS) (P : D → MS → Prop) : Prop := match tyD d with
  | some a => P (.bl (subT a T)) m
  | none => False
theorem w_isi {T : Ty} (h : ExG de ds ms fun d m => mIsi T d m P) : dIsi T de ds ms P := h
theorem w_mIsiT {T a : Ty} (e : tyD d = some a) (e2 : subT a T = true) (h : P (.bl true) m) : mIsi T d m P := by unfold mIsi; simp only [e, e2]; exact h
theorem w_mIsiF {T a : Ty} (e : tyD d = some a) (e2 : subT a T = false) (h : P (.bl false) m) : mIsi T d m P := by unfold mIsi; simp only [e, e2]; exact h
def mIsE (ml : List (Str × Bool)) (d : D) (m : MS) (P : D → MS → Prop) : Prop := match d with
  | .exc c _ _ => (match ml.lookup c with
    | some b => P (.bl b) m
    | none => False)
  | _ => False
theorem w_isE {ml : List (Str × Bool)} (h : ExG de ds ms fun d m => mIsE ml d m P) : dIsE ml de ds ms P := h
theorem w_mIsE {ml : List (Str × Bool)} {c : Str} {ns : List Str} {b : Bool} (e : ml.lookup c = some b) (h : P (.bl b) m) : mIsE ml (.exc c ns xs) m P := by unfold mIsE; simp only [e]; exact h
def mFld (ml : List (Str × Bool)) (f : Str) (d : D) (m : MS) (P : D → MS → Prop) : Prop := match d with
  | .exc c ns xs => (ml.lookup c).isSome = true ∧ ∃ y, (ns.zip xs).lookup f = some y ∧ P y m
  | _ => False
theorem w_fld {ml : List (Str × Bool)} {f : Str} (h : ExG de ds ms fun d m => mFld ml f d m P) : dFld ml f de ds ms P := h
theorem w_mFld {ml : List (Str × Bool)} {f c : Str} {ns : List Str} {b : Bool} (e : ml.lookup c = some b) (e2 : (ns.zip xs).lookup f = some y) (h : P y m) : mFld ml f (.exc c ns xs) m P := by unfold mFld; simp only [e]; exact ⟨rfl, y, e2, h⟩
/-! lists that change -/
def mApp (aa : DA) (ds : DS) (d : D) (m : MS) (P : D → MS → Prop) : Prop := match d with
  | .opq (.ref p) => (∃ xs0, look m p = some xs0) ∧ aa ds m fun ys m2 => (match ys with
    | [y] => (match look m2 p with
      | some xs => xs.length < sizeLine ∧ P .non (put m2 p (xs ++ [y]))
      | none => False)
    | _ => False)
  | _ => False
def mApp2 (p : Addr) (ys : List D) (m : MS) (P : D → MS → Prop) : Prop := match ys with
  | [y] => (match look m p with
    | some xs => xs.length < sizeLine ∧ P .non (put m p (xs ++ [y]))
    | none => False)
  | _ => False
theorem w_append (h : ExG de ds ms fun d m => mApp aa ds d m P) : dAppend de aa ds ms P := h
theorem w_mApp (e : look m p = some xs) (h : ArG aa ds m fun ys m2 => mApp2 p ys m2 P) : mApp aa ds (.opq (.ref p)) m P := ⟨⟨_, e⟩, h⟩
theorem w_mApp2 {m' : MS} (e : look m p = some xs) (e2 : put m p (xs ++ [y]) = m') (h : xs.length < sizeLine ∧ P .non m') : mApp2 p [y] m P := by unfold mApp2; simp only [e, e2]; exact h
theorem put_new {p : Addr} {xs ys : List D} {m : MS} : put ((p, xs) :: m) p ys = (p, ys) :: m := by unfold put; rw [if_pos rfl]
theorem drp_new {p : Addr} {xs : List D} {m : MS} : drp ((p, xs) :: m) p = m := by unfold drp; rw [if_pos rfl]
def mFrz (d : D) (m : MS) (P : D → MS → Prop) : Prop := match d with
  | .opq (.ref p) => (match look m p with
    | some xs => P (.lst xs) (drp m p)
    | none => False)
  | _ => False
theorem w_frz (h : ExG de ds ms fun d m => mFrz d m P) : dFrz de ds ms P := h
theorem w_mFrz {m' : MS} (e : look m p = some xs) (e2 : drp m p = m') (h : P (.lst xs) m') : mFrz (.opq (.ref p)) m P := by unfold mFrz; simp only [e, e2]; exact h
theorem look_new {p : Addr} {xs : List D} {m : MS} : look ((p, xs) :: m) p = some xs := by unfold look; rw [if_pos rfl]
/-! chains -/
def mChain (f' : OF) (dc : DE) (ds : DS) (y z : D) (m : MS) (P : D → MS → Prop) : Prop := match z with
  | .bl k => if k = true then dc ds m fun w m4 => f' y w m4 P else P (.bl false) m
  | _ => False
theorem w_chain {f f' : OF} (h : ExG da ds ms fun x m1 => ExG db ds m1 fun y m2 => OpG f x y m2 fun z m3 => mChain f' dc ds y z m3 P) : dChain f f' da db dc ds ms P := h
theorem w_mChain {f' : OF} (h : if b = true then ExG dc ds m fun w m4 => OpG f' y w m4 P else P (.bl false) m) : mChain f' dc ds y (.bl b) m P := h
def mIs (neg : Bool) (x y : D) (m : MS) (P : D → MS → Prop) : Prop := fIsB neg x y m P
theorem w_is (h : mIs false x y ms P) : fIs x y ms P := h
theorem w_notIs (h : mIs true x y ms P) : fNotIs x y ms P := h
theorem w_mIsN {neg z : Bool} (e : nonD x = some z) (h : P (.bl (Bool.xor neg z)) ms) : mIs neg x .non ms P := by unfold mIs fIsB; simp only [e]; exact h
theorem w_mIsB {neg a c : Bool} (h : P (.bl (Bool.xor neg (decide (a = c)))) ms) : mIs neg (.bl a) (.bl c) ms P := h
end
end

/-! entries -/
section
variable {E : EN} {ds : DS} {ms : MS} {P : D → MS → Prop} {t u : DTS} {de da db : DE} {dt du : DT} {g : DG} {gs : DGs} {aa ak : DA} {di : DI} {d : D} {n k i : Nat} {PT : Bool → MS → Prop} {PS : DS → Prop} {f : OF} {c : CF} {is : List Nat} {fs : FS}
theorem r_nx (h : NxG E ds ms) : E.nx ds ms := h
theorem r_rt (h : RtG E d ms) : E.rt d ms := h
theorem r_seq (h : StG (dSeq t u) E ds ms) : dSeq t u E ds ms := h
theorem r_ret (h : StG (dRet de) E ds ms) : dRet de E ds ms := h
theorem r_ifS (h : StG (dIfS dt t u) E ds ms) : dIfS dt t u E ds ms := h
theorem r_asg (h : StG (dAsg de g) E ds ms) : dAsg de g E ds ms := h
theorem r_drop (h : StG (dDrop de) E ds ms) : dDrop de E ds ms := h
theorem r_for (h : StG (dFor di g t) E ds ms) : dFor di g t E ds ms := h
theorem r_exprZ {dz : ZD → DE} (h : StG (dExprZ dz) E ds ms) : dExprZ dz E ds ms := h
theorem r_name (h : TgG (sName i) d ds PS) : sName i d ds PS := h
theorem r_stup (h : TgG (sTup n gs) d ds PS) : sTup n gs d ds PS := h
theorem r_op (h : ExG (dOp f da db) ds ms P) : dOp f da db ds ms P := h
theorem r_call (h : ExG (dCall n k is fs aa ak) ds ms P) : dCall n k is fs aa ak ds ms P := h
theorem r_cb (h : ExG (dCB c aa) ds ms P) : dCB c aa ds ms P := h
theorem r_var (h : ExG (dVar i) ds ms P) : dVar i ds ms P := h
theorem r_c (h : ExG (dC d) ds ms P) : dC d ds ms P := h
theorem r_tup (h : ExG (dTup aa) ds ms P) : dTup aa ds ms P := h
theorem r_lst (h : ExG (dLst aa) ds ms P) : dLst aa ds ms P := h
theorem r_andV (h : ExG (dAndV da db) ds ms P) : dAndV da db ds ms P := h
theorem r_orV (h : ExG (dOrV da db) ds ms P) : dOrV da db ds ms P := h
theorem r_notV (h : ExG (dNotV da) ds ms P) : dNotV da ds ms P := h
theorem r_if (h : ExG (dIf dt da db) ds ms P) : dIf dt da db ds ms P := h
theorem r_test (h : TsG (dTest da) ds ms PT) : dTest da ds ms PT := h
theorem r_not (h : TsG (dNot dt) ds ms PT) : dNot dt ds ms PT := h
theorem r_and (h : TsG (dAnd dt du) ds ms PT) : dAnd dt du ds ms PT := h
theorem r_or (h : TsG (dOr dt du) ds ms PT) : dOr dt du ds ms PT := h
theorem r_lc {tt : DT} {te : DE} {vs : List Nat} (h : ExG (dLc di g tt te vs) ds ms P) : dLc di g tt te vs ds ms P := h
theorem r_sl {ol oh : DO} (h : ExG (dSl de ol oh) ds ms P) : dSl de ol oh ds ms P := h
theorem r_isi {T : Ty} (h : ExG (dIsi T de) ds ms P) : dIsi T de ds ms P := h
theorem r_chain {f' : OF} {dc : DE} (h : ExG (dChain f f' da db dc) ds ms P) : dChain f f' da db dc ds ms P := h
theorem r_neg (h : ExG (dNeg de) ds ms P) : dNeg de ds ms P := h
end
end DL

namespace DL
open PySem PySem.Spec PyProof.Rows L2

/-! ### a try whose clause has a suite of its own; the exception stays known -/
def wKeepS (K : PySem.W.Frag) (c : Value) (i : Nat) (ts : TS) (Wout : WX) (D : Ends) : WX := fun cv d σ H => ∃ b, PySem.W.exmOne K cv c = some b ∧
  (b = true → ∀ a, H a = none → ts { nx := fun σ' H' => D.nx (σ'.set i none) H', rt := D.rt, bk := fun σ' H' => D.bk (σ'.set i none) H', ct := fun σ' H' => D.ct (σ'.set i none) H' } (σ.set i (some (V.ref a))) (upd H a (ExH cv d a))) ∧ (b = false → Wout cv d σ H)
section
variable {X : Cx} {pins : List (Addr × Obj)} {σ : L2.St} {H : Hp} {s : Shared}
theorem Inv.inSuite (I : Inv X pins σ H s) (a : Addr) : Inv (X.suite a (X.pn ++ pins)) [] σ H s :=
  ⟨I.ok.suite a _, I.os, I.bare, I.base, I.loc, I.cell, I.free, I.freeC, fun p hp => I.pin p (by rw [List.append_nil] at hp; exact hp), I.hok, I.len⟩
theorem Inv.ofSuite {a : Addr} (I : Inv (X.suite a (X.pn ++ pins)) [] σ H s) (ok : X.Ok) : Inv X pins σ H s :=
  ⟨ok, I.os, I.bare, I.base, I.loc, I.cell, I.free, I.freeC, fun p hp => I.pin p (by rw [List.append_nil]; exact hp), I.hok, I.len⟩
end
section
variable {X : Cx} {x n : Str} {c : Value} {i : Nat} {body suite : List Stmt} {b₀ : Stmt} {np pos pos' : Pos} {tb : WX → TS} {ts : TS} {Wout : WX}
theorem ps_tryG (hs : X.stack = X.env :: X.outer) (hf : X.env.frame = some X.env.locals) (hex : X.ex = []) (hN : X.N.Nodup) (hi : X.N[i]? = some n) (hln : X.env.kindOf n = some .local) (hc : Names X x c) (tk : Takes X Wout)
    (hb : ∀ (W : WX) (q : List (Addr × Obj)) (xe : Value → Shared → Prop), Takes (X.tr q xe) W → PassesOwn (model X.prog X.w) X.A X.env xe → PSs (X.tr q xe) body (tb W))
    (hsv : ∀ (a : Addr) (q : List (Addr × Obj)), PSs (X.suite a q) (b₀ :: suite) ts) :
    PS X (.Try body [.ExceptHandler (some (.Name x np)) (some n) (b₀ :: suite) pos'] [] [] pos) (fun D σ H => tb (wKeepS X.K c i ts Wout D) D σ H) := by
  refine ⟨fun pins s σ H D I h => wpAny_Try_except ?_⟩
  have ok := I.ok
  have fr : X.A.frames = some (X.env :: X.outer) := ok.frames.trans (congrArg some hs)
  have caught : Takes (X.tr (X.pn ++ pins) fun v t1 => wpAny (model X.prog X.w) X.A (noteFrame v X.env)
      (fun _ t2 => wpAny (model X.prog X.w) X.A (setFlight v none) (fun _ t3 => wpAny (model X.prog X.w) X.A (handleBy v X.env [.ExceptHandler (some (.Name x np)) (some n) (b₀ :: suite) pos']) (SP X pins D) X.xe t3) X.xe t2) X.xe t1) (wKeepS X.K c i ts Wout D) := by
    rintro v t ⟨a, B, t0, pins0, τ, G, cv, d, rfl, J0, low, up, sky, na, ho, hg, b, hm, yes, no⟩
    have J : Inv X pins τ G t0 := J0.ofTry ok
    rw [show (X.tr (X.pn ++ pins) _).stack = X.env :: X.outer from hs] at sky
    refine Sky.land Zc.steady fr hf sky fun g1 fly u1 => ?_
    have J1 : Inv X pins τ G { t with heap := g1 } := J.landed low fly.1 (up.trans u1) ho hg
    obtain ⟨o1, f1, ha1, hz1, hd1⟩ := fly.there
    have off : a ∉ frs (X.env :: X.outer) := fun hm => by
      obtain ⟨_, o2, ha2, nf⟩ := fly.2.2.1.mem hm
      cases ha1.symm.trans ha2
      exact nf _ hd1
    have offL : a ≠ X.env.locals := fun z => off (List.mem_filterMap.mpr ⟨X.env, List.mem_cons_self, hf.trans (congrArg some z.symm)⟩)
    have offF : a ∉ X.fs := fun hm => by
      obtain ⟨e1, h1, h2⟩ := List.mem_filterMap.mp hm
      exact off (List.mem_filterMap.mpr ⟨e1, List.mem_cons_of_mem _ h1, h2⟩)
    have n0 : t0.heap.get? a = none := by
      cases e : t0.heap.get? a with
      | none => rfl
      | some o =>
        have z := low a o e (by rw [show (X.tr (X.pn ++ pins) _).stack = X.env :: X.outer from hs]; exact off)
        rw [fly.2.1] at z
        cases z
    have S1 := J1.suite ha1 hd1 na offL offF
    have ty : PySem.W.Looks (model X.prog X.w) g1 (typeOf (.ref a)) cv := fun _ _ _ _ k q => wpAny_typeOf_ref (k _ _ ha1) (by rw [hz1.1]; exact q)
    refine wpAny_handleBy_cons (codeAny_handlers_test ?_) (fun q => nomatch q)
    have name : ∀ {Q E : Value → Shared → Prop}, Q c { t with heap := g1 } → wpAny (model X.prog X.w) (X.A.mark (some (.ref a))) (eval (.Name x np) X.env) Q E { t with heap := g1 } := by
      intro Q E q
      rcases hc with ⟨h1, h2, h3 | ⟨h3, h4, h5⟩⟩
      · exact ld_glob S1 h1 h3 q h2
      · exact ld_blt S1 h1 h3 h4 q h5 h2
    refine name ((PySem.W.exm_one J1.kIn ty hm).here ?_)
    cases b with
    | true =>
      refine codeAny_handlers_suite_as (HandSPX.lands_againZ fly fun g2 fly2 u2 => ?_)
      have J2 : Inv X pins τ G { t with heap := g2 } := J.landed low fly2.1 ((up.trans u1).trans u2) ho hg
      obtain ⟨o2, f2, ha2, hz2, hd2⟩ := fly2.there
      refine store_ok (X := X.suite a ((a, o2) :: (X.pn ++ pins))) (v := V.ref a) (J2.suite ha2 hd2 na offL offF) hN hi (.inl hln) rfl (fun t5 S5 => ?_) (.inr hln)
      obtain ⟨ha5, _⟩ := S5.pin (a, o2) (List.mem_append_left _ List.mem_cons_self)
      have T5 := track (X := X.suite a (X.pn ++ pins)) (Inv.inSuite (S5.unsuite ok) a) (Inv.inSuite J a) hex n0 na ha5 hz2 hd2
      refine wpAny_mono ((hsv a _).run [] t5 _ _ _ T5 (yes rfl a na)) (fun fl t6 z => ?_) fun _ _ z => z.elim
      have end_ : ∀ {σ6 : L2.St} {H6 : Hp} {Q : Shared → Prop}, Inv (X.suite a (X.pn ++ pins)) [] σ6 H6 t6 → (∀ s7, Inv X pins (σ6.set i none) H6 s7 → Q s7) →
          wpAny (model X.prog X.w) X.A (do bindName X.env n .none; unbindBehindTheSuite X.env n pos') (fun _ s7 => Q s7) X.xe t6 := fun {σ6 H6 Q} S6 hq => gone_ok (Inv.ofSuite S6 ok) hN hi hln hq
      match fl, z with
      | .next, ⟨σ6, H6, S6, q6⟩ => exact end_ S6 fun s7 J7 => ⟨_, _, J7, q6⟩
      | .brk, ⟨σ6, H6, S6, q6⟩ => exact end_ S6 fun s7 J7 => ⟨_, _, J7, q6⟩
      | .cont, ⟨σ6, H6, S6, q6⟩ => exact end_ S6 fun s7 J7 => ⟨_, _, J7, q6⟩
      | .ret u, ⟨v6, σ6, H6, S6, r6, q6⟩ => exact end_ S6 fun s7 J7 => ⟨_, _, _, J7, r6, q6⟩
    | false =>
      refine wpAny_handleBy_nil ?_
      obtain ⟨_, _, _, o3, f3, T, _, _, ha3, _, hd3, h13, _⟩ := id fly
      unfold PySem.passOn
      refine wpAny_bind (wpAny_field ha3 hd3 h13 ?_)
      rw [if_neg (by simp)]
      have last : wpAny (model X.prog X.w) X.A (setFlight (.ref a) X.env.frame) (fun _ t4 => wpAny (model X.prog X.w) X.A (throw (.ref a) : Sem Flow) (SP X pins D) X.xe t4) X.xe { t with heap := g1 } := by
        rw [hf]
        exact HandSPX.setFlight_upZ fly fun g4 held u4 => wpAny_throw (tk _ _ ⟨a, B, t0, pins, τ, G, cv, d, rfl, J, low, (up.trans u1).trans u4, .inr (.inr (hs ▸ held)), na, ho, hg, no rfl⟩)
      first
        | exact wpAny_bind (wpAny_pure (wpAny_bind last))
        | exact wpAny_bind last
  refine wpAny_mono ((hb _ _ _ caught PassesOwn.looking).run [] s σ H D (I.toTry _) h) (fun fl t1 z => ?_) fun _ _ z => z
  match fl, z with
  | .next, ⟨σ1, H1, J1, q⟩ => exact wpAny_execs_nil ⟨σ1, H1, J1.ofTry ok, q⟩
  | .brk, ⟨σ1, H1, J1, q⟩ => exact ⟨σ1, H1, J1.ofTry ok, q⟩
  | .cont, ⟨σ1, H1, J1, q⟩ => exact ⟨σ1, H1, J1.ofTry ok, q⟩
  | .ret _, ⟨v1, σ1, H1, J1, r, q⟩ => exact ⟨v1, σ1, H1, J1.ofTry ok, r, q⟩
end

def EN.gone (E : EN) (i : Nat) : EN := { nx := fun ds m => E.nx (ds.set i none) m, rt := E.rt, bk := fun ds m => E.bk (ds.set i none) m, ct := fun ds m => E.ct (ds.set i none) m }
def mTryG (ml : List (Str × Bool)) (i : Nat) (ts : DTS) (E : EN) (c : Str) (ns : List Str) (xs : List D) (ds : DS) (ms : MS) : Prop := match ml.lookup c with
  | some true => ts (EN.gone E i) (setSlot ds i (.exc c ns xs)) ms
  | some false => E.ex c ns xs ds ms
  | none => False
def dTryG (ml : List (Str × Bool)) (i : Nat) (tb ts : DTS) : DTS := fun E ds ms => tb { E with ex := mTryG ml i ts E } ds ms
def dTryG0 (ml : List (Str × Bool)) (i : Nat) (tb ts : DTS) : DTS := fun E ds ms => dTryG ml i tb ts { E with ex := fun _ _ _ _ _ => False } ds ms
section
variable {X : Cx} {x n : Str} {cl : Value} {i : Nat} {body suite : List Stmt} {b₀ : Stmt} {np pos pos' : Pos} {tb ts : DTS} {W : WX} {ml : List (Str × Bool)}
theorem px_tryG (hc : Names X x cl) (hml : MlE X.K cl ml) (tk : Takes X W)
    (hb : ∀ (W : WX) (q : List (Addr × Obj)) (xe : Value → Shared → Prop), Takes (X.tr q xe) W → PassesOwn (model X.prog X.w) X.A X.env xe → PXs (X.tr q xe) W body tb)
    (hsv : ∀ (a : Addr) (q : List (Addr × Obj)), PDSs (X.suite a q) (b₀ :: suite) ts) (hN : X.N.Nodup) (hi : X.N[i]? = some n) (hln : X.env.kindOf n = some .local)
    (hs : X.stack = X.env :: X.outer := by rfl) (hf : X.env.frame = some X.env.locals := by rfl) (hex : X.ex = [] := by rfl) :
    PX X W (.Try body [.ExceptHandler (some (.Name x np)) (some n) (b₀ :: suite) pos'] [] [] pos) (dTryG ml i tb ts) :=
  psImp (ps_tryG (tb := fun W => liftX X.K W tb) (ts := liftS X.K ts) hs hf hex hN hi hln hc tk hb hsv) fun D σ H ⟨F, ds, ms, E, R, S, h, n1, r1, k1, q1, x1⟩ =>
    ⟨F, ds, ms, _, R, S, h, n1, r1, k1, q1, fun c ns xs ds1 m1 cv d ws σ1 F1 H1 h1 R1 s1 S1 hn hx hd => by
      have h1' : mTryG ml i ts E c ns xs ds1 m1 := h1
      unfold mTryG at h1'
      cases e : ml.lookup c with
      | none => rw [e] at h1'; exact h1'.elim
      | some b =>
        rw [e] at h1'
        refine ⟨b, hml c b cv e hn, fun hb1 a na => ?_, fun hb1 => ?_⟩
        · subst hb1
          have sb : Sub F1 (upd F1 a (ExH cv d a)) := Sub.new (R1.sub.none na)
          have s2 := s1.trans (Stp.new (o := ExH cv d a) R1 na)
          refine ⟨upd F1 a (ExH cv d a), _, m1, _, R1.new na, Sl.set (.exc hn upd_same (hx.mono sb) (hd.mono sb)) i (S1.mono sb), h1', ?_, ?_, ?_, ?_⟩
          · exact fun ds3 m3 σ3 F3 H3 h3 R3 s3 S3 => n1 _ m3 _ F3 H3 h3 R3 (s2.trans s3) (Sl.off i S3)
          · exact fun d3 m3 v3 F3 H3 h3 R3 s3 r3 => r1 d3 m3 v3 F3 H3 h3 R3 (s2.trans s3) r3
          · exact fun ds3 m3 σ3 F3 H3 h3 R3 s3 S3 => k1 _ m3 _ F3 H3 h3 R3 (s2.trans s3) (Sl.off i S3)
          · exact fun ds3 m3 σ3 F3 H3 h3 R3 s3 S3 => q1 _ m3 _ F3 H3 h3 R3 (s2.trans s3) (Sl.off i S3)
        · subst hb1
          exact x1 c ns xs ds1 m1 cv d ws σ1 F1 H1 h1' R1 s1 S1 hn hx hd⟩
theorem pds_tryG (hc : Names X x cl) (hml : MlE X.K cl ml)
    (hb : ∀ (W : WX) (q : List (Addr × Obj)) (xe : Value → Shared → Prop), Takes (X.tr q xe) W → PassesOwn (model X.prog X.w) X.A X.env xe → PXs (X.tr q xe) W body tb)
    (hsv : ∀ (a : Addr) (q : List (Addr × Obj)), PDSs (X.suite a q) (b₀ :: suite) ts) (hN : X.N.Nodup) (hi : X.N[i]? = some n) (hln : X.env.kindOf n = some .local)
    (hs : X.stack = X.env :: X.outer := by rfl) (hf : X.env.frame = some X.env.locals := by rfl) (hex : X.ex = [] := by rfl) :
    PDS X (.Try body [.ExceptHandler (some (.Name x np)) (some n) (b₀ :: suite) pos'] [] [] pos) (dTryG0 ml i tb ts) :=
  psImp (px_tryG hc hml takes0 hb hsv hN hi hln hs hf hex) fun D σ H ⟨F, ds, ms, E, R, S, h, n1, r1, k1, q1⟩ => ⟨F, ds, ms, _, R, S, h, n1, r1, k1, q1, fun _ _ _ _ _ _ _ _ _ _ _ z => z.elim⟩
end
section
variable {ml : List (Str × Bool)} {i : Nat} {tb ts : DTS} {E : EN} {ds ds' : DS} {ms : MS} {c : Str} {ns : List Str} {xs : List D} {d : D}
theorem w_tryG (h : StG tb (EN.wx E (mTryG ml i ts E)) ds ms) : dTryG ml i tb ts E ds ms := h
theorem w_tryG0 (h : StG (dTryG ml i tb ts) (EN.wx E fun _ _ _ _ _ => False) ds ms) : dTryG0 ml i tb ts E ds ms := h
theorem w_mTryG (e : ml.lookup c = some true) (e2 : setSlot ds i (.exc c ns xs) = ds') (h : StG ts (EN.gone E i) ds' ms) : mTryG ml i ts E c ns xs ds ms := by
  unfold mTryG; rw [e]; subst e2; exact h
theorem w_mTryGF (e : ml.lookup c = some false) (h : XcG E c ns xs ds ms) : mTryG ml i ts E c ns xs ds ms := by
  unfold mTryG; rw [e]; exact h
theorem n_gone (e : ds.set i none = ds') (h : NxG E ds' ms) : NxG (EN.gone E i) ds ms := by subst e; exact h
theorem t_gone (h : RtG E d ms) : RtG (EN.gone E i) d ms := h
theorem b_gone (e : ds.set i none = ds') (h : BkG E ds' ms) : BkG (EN.gone E i) ds ms := by subst e; exact h
theorem c_gone (e : ds.set i none = ds') (h : CtG E ds' ms) : CtG (EN.gone E i) ds ms := by subst e; exact h
end

/-! ### defs with defaults -/
structure FunA (K : PySem.W.Frag) (x qual : Str) (st : Stmt) (f : Addr) (fd : FuncData) (dvs : List V) (kws : List (Str × V)) : Prop where
  ex : ∃ (oc : Value) (od : Option Addr) (dV kV doc pm : Value) (an : Option Addr) (cdv ct : Value) (osl : Array (Option Value)),
    fd = PySem.W.fnOf x qual (defArgs st) (defBody st) (defScope st) dV kV doc pm an cdv ct ∧ K.lookup f = some ⟨oc, od, .func fd, osl⟩ ∧ PySem.W.codeIn K cdv qual = true ∧ DflV K dV dvs ∧ KwdV K kV kws
  kp : PySem.W.keepIn K (.ref f) = true
theorem fnGA_of {P : Program} {w : World} {K : PySem.W.Frag} {mg : Str → Option Value} {base : Heap} {k : Nat} {f : Addr} {fd : FuncData} {x qual : Str} {st : Stmt} {N ps : List Str} {fs : FS} {t : DTS}
    {dvs : List V} {kws : List (Str × V)} (F : FunA K x qual st f fd dvs kws) (S : FnScope N ps (defScope st)) (len : ∀ ds ms Q, fs ds ms Q → ds.length = ps.length)
    (body : ∀ (cdv : Value) (A : Around) (outer : List Env) (s : Shared) (H : Hp), RoomG k (A.deeper (envOfC qual (defScope st) s.heap.objs.size f cdv)) →
      PDSs (cxOf CX0 P w K mg base N qual (defScope st) f cdv A outer s H E0).nox (defBody st) t)
    (sem : ∀ ds ms Q, fs ds ms Q → t { nx := fun _ m => Q .non m, rt := Q } (startD N.length ds) ms) : FnG P w K mg base (k + 1) f fd ps (spD K fs) := by
  have hlen : ∀ vs H Q E, spD K fs vs H Q E → vs.length = ps.length := by
    rintro vs H Q E ⟨F0, ds, ms, P0, R, r, h, _⟩
    rw [r.length]
    exact len ds ms P0 h
  refine ⟨hlen, ?_⟩
  intro A outer s H args us vs Q hr e0 hb r hsp
  obtain ⟨oc, od, dV, kV, doc, pm, an, cdv, ct, osl, rfl, lk, hcd, _, _⟩ := F.ex
  have hl := hlen _ _ _ _ hsp
  have KX : K.In s.heap := e0.mod.kin.keeps fun b o e => (e0.bs b o e).1
  have lim : s.heap.NoLimit := e0.mod.nolimit.keeps fun b o e => (e0.bs b o e).1
  have hkind : ∀ y ∈ ps.zip us, (defScope st).names.lookup y.1 = some .local ∨ ((defScope st).names.lookup y.1 = some .cell ∧
      ((cellsFrom (s.heap.objs.size + 1) (defScope st).names []).lookup y.1).isSome = true) := by
    rintro ⟨n, v⟩ hy
    exact (S.par n (List.of_mem_zip hy).1).imp id fun q => ⟨q, PySem.W.cellsFrom_some _ _ _ (.inl q)⟩
  have hr2 : RoomG k (A.deeper (envOfC qual (defScope st) s.heap.objs.size f cdv)) := ⟨hr.r.deeper _, hr.g⟩
  refine codeAny_call_function hr.r.depth (KX _ _ lk) rfl S.co S.gen rfl (PySem.W.codeRec_of KX hcd) (hb _ _ _ _ ?_)
  refine wpAny_newFunctionEnv_cells S.kind hkind fun env he s1 x1 => ?_
  subst he
  refine ⟨lim.keeps x1.toInCall.keep, codeAny_func ?_⟩
  have I : Inv (cxOf CX0 P w K mg base N qual (defScope st) f cdv A outer s H E0) [] (L2.start N vs) H s1 := inv_start S hr.r.hd e0 hl r x1
  have hq : liftS K t { nx := fun _ H' => Q .non H', rt := Q } (L2.start N vs) H := by
    obtain ⟨F0, ds, ms, P0, R, rd, h, q⟩ := hsp
    refine ⟨F0, startD N.length ds, ms, _, R, sl_start rd (by rw [hl, ← S.pre]; exact List.length_take_le' _ _), sem ds ms P0 h, ?_, ?_, ?_, ?_⟩
    · exact fun ds' ms' σ' F' H' z R' s' S' => q .non ms' .non F' H' z R' s' .non
    · exact fun d ms' v F' H' z R' s' r' => q d ms' v F' H' z R' s' r'
    · exact fun _ _ _ _ _ z _ _ _ => z.elim
    · exact fun _ _ _ _ _ z _ _ _ => z.elim
  have hrun := ((body cdv A outer s H hr2).nox).run [] s1 (L2.start N vs) H _ I hq
  refine wpAny_mono hrun (fun fl s' hs => ?_) fun e s' hs => hs
  match fl, hs with
  | .ret u, hs =>
    obtain ⟨v, σ', H', J, rv, q⟩ := hs
    exact ⟨v, H', J.os, J.bare, J.base, J.hok, rv, q⟩
  | .next, hs =>
    obtain ⟨σ', H', J, q⟩ := hs
    exact ⟨V.non, H', J.os, J.bare, J.base, J.hok, rfl, q⟩
  | .brk, hs => obtain ⟨_, _, _, q⟩ := hs; exact False.elim q
  | .cont, hs => obtain ⟨_, _, _, q⟩ := hs; exact False.elim q
theorem fnXA_of {P : Program} {w : World} {K : PySem.W.Frag} {mg : Str → Option Value} {base : Heap} {k : Nat} {f : Addr} {fd : FuncData} {x qual : Str} {st : Stmt} {N ps : List Str} {fx : FX} {t : DTS}
    {dvs : List V} {kws : List (Str × V)} (F : FunA K x qual st f fd dvs kws) (S : FnScope N ps (defScope st)) (len : ∀ ds ms Q Z, fx ds ms Q Z → ds.length = ps.length)
    (body : ∀ (cdv : Value) (A : Around) (outer : List Env) (s : Shared) (H : Hp) (E : XK), RoomG k (A.deeper (envOfC qual (defScope st) s.heap.objs.size f cdv)) →
      ∀ W : WX, Takes (cxOf (L2.CX P w) P w K mg base N qual (defScope st) f cdv A outer s H E) W → PXs (cxOf (L2.CX P w) P w K mg base N qual (defScope st) f cdv A outer s H E) W (defBody st) t)
    (sem : ∀ ds ms Q Z, fx ds ms Q Z → t { nx := fun _ m => Q .non m, rt := Q, ex := fun c ns xs _ m => Z c ns xs m } (startD N.length ds) ms) : FnX P w K mg base (k + 1) f fd ps (spX K fx) := by
  have hlen : ∀ vs H Q E, spX K fx vs H Q E → vs.length = ps.length := by
    rintro vs H Q E ⟨F0, ds, ms, P0, Z, R, r, h, _⟩
    rw [r.length]
    exact len ds ms P0 Z h
  refine ⟨hlen, ?_⟩
  intro A outer s H args us vs Q E hr e0 hb r hsp
  obtain ⟨oc, od, dV, kV, doc, pm, an, cdv, ct, osl, rfl, lk, hcd, _, _⟩ := F.ex
  have hl := hlen _ _ _ _ hsp
  have KX : K.In s.heap := e0.mod.kin.keeps fun b o e => (e0.bs b o e).1
  have lim : s.heap.NoLimit := e0.mod.nolimit.keeps fun b o e => (e0.bs b o e).1
  have hkind : ∀ y ∈ ps.zip us, (defScope st).names.lookup y.1 = some .local ∨ ((defScope st).names.lookup y.1 = some .cell ∧
      ((cellsFrom (s.heap.objs.size + 1) (defScope st).names []).lookup y.1).isSome = true) := by
    rintro ⟨n, v⟩ hy
    exact (S.par n (List.of_mem_zip hy).1).imp id fun q => ⟨q, PySem.W.cellsFrom_some _ _ _ (.inl q)⟩
  have hr2 : RoomG k (A.deeper (envOfC qual (defScope st) s.heap.objs.size f cdv)) := ⟨hr.r.deeper _, hr.g⟩
  refine codeAny_call_function hr.r.depth (KX _ _ lk) rfl S.co S.gen rfl (PySem.W.codeRec_of KX hcd) (hb _ _ _ _ ?_)
  refine wpAny_newFunctionEnv_cells S.kind hkind fun env he s1 x1 => ?_
  subst he
  refine ⟨lim.keeps x1.toInCall.keep, codeAny_func ?_⟩
  have I : Inv (cxOf (L2.CX P w) P w K mg base N qual (defScope st) f cdv A outer s H E) [] (L2.start N vs) H s1 := inv_start S hr.r.hd e0 hl r x1
  have tk : Takes (cxOf (L2.CX P w) P w K mg base N qual (defScope st) f cdv A outer s H E) fun cls d _ H' => E cls d H' := takes_of rfl rfl rfl rfl
  have hq : liftX K (fun cls d _ H' => E cls d H') t { nx := fun _ H' => Q .non H', rt := Q } (L2.start N vs) H := by
    obtain ⟨F0, ds, ms, P0, Z, R, rd, h, q, z⟩ := hsp
    refine ⟨F0, startD N.length ds, ms, _, R, sl_start rd (by rw [hl, ← S.pre]; exact List.length_take_le' _ _), sem ds ms P0 Z h, ?_, ?_, ?_, ?_, ?_⟩
    · exact fun ds' ms' σ' F' H' y R' s' S' => q .non ms' .non F' H' y R' s' .non
    · exact fun d ms' v F' H' y R' s' r' => q d ms' v F' H' y R' s' r'
    · exact fun _ _ _ _ _ y _ _ _ => y.elim
    · exact fun _ _ _ _ _ y _ _ _ => y.elim
    · exact fun c ns xs ds' ms' cv d ws σ' F' H' y R' s' S' hn hx hd => z c ns xs ms' cv d ws F' H' y R' s' hn hx hd
  refine wpAny_mono ((body cdv A outer s H E hr2 _ tk).run [] s1 (L2.start N vs) H _ I hq) (fun fl s' hs => ?_) fun e s' hs => hs
  match fl, hs with
  | .ret u, hs =>
    obtain ⟨v, σ', H', J, rv, q⟩ := hs
    exact ⟨v, H', J.os, J.bare, J.base, J.hok, rv, q⟩
  | .next, hs =>
    obtain ⟨σ', H', J, q⟩ := hs
    exact ⟨V.non, H', J.os, J.bare, J.base, J.hok, rfl, q⟩
  | .brk, hs => obtain ⟨_, _, _, q⟩ := hs; exact False.elim q
  | .cont, hs => obtain ⟨_, _, _, q⟩ := hs; exact False.elim q


structure BndA (K : PySem.W.Frag) (fd : FuncData) (ps : List Str) (n : Nat) (ks : List Str) (is : List Nat) (dvs : List V) : Prop where
  to : ∃ its : List Value, Vals dvs its ∧ ∀ (s : Shared) (us ws : List Value), K.In s.heap → us.length = n → ws.length = ks.length → BindsTo s fd ⟨us, ks.zip ws⟩ (ps.zip (pick is (us ++ (ws ++ its))))
section
variable {K : PySem.W.Frag} {x qual : Str} {st : Stmt} {f : Addr} {fd : FuncData} {dvs : List V} {kws : List (Str × V)} {ps ks : List Str} {n : Nat} {is : List Nat}
theorem bndA_of (F : FunA K x qual st f fd dvs kws) (hd : dvs ≠ [])
    (h : ∀ (T : Addr) (kV doc pm : Value) (an : Option Addr) (cdv ct : Value) (us ws its : List Value), us.length = n → ws.length = ks.length → its.length = dvs.length →
      ∃ k, bindArgs (PySem.W.fnOf x qual (defArgs st) (defBody st) (defScope st) (.ref T) kV doc pm an cdv ct) ⟨us, ks.zip ws⟩ = seqItems? (.ref T) >>= k ∧ k (some its.toArray) = pure (ps.zip (pick is (us ++ (ws ++ its))))) : BndA K fd ps n ks is dvs := by
  obtain ⟨oc, od, dV, kV, doc, pm, an, cdv, ct, osl, rfl, lk, hcd, hD, hK⟩ := F.ex
  rcases hD with ⟨e, _⟩ | ⟨_, T, o, its, m, rfl, lT, oT, rT⟩
  · exact absurd e hd
  · refine ⟨its, rT, fun s us ws X h1 h2 => ?_⟩
    obtain ⟨k, e1, e2⟩ := h T kV doc pm an cdv ct us ws its h1 h2 rT.length.symm
    refine BindsTo.of_looks fun M => ?_
    rw [e1]
    exact looks_items X lT oT (.of_pure e2)
/-- keyword-only defaults: lack those of mz -/
theorem bndA_kw (F : FunA K x qual st f fd [] kws) (mz : List (Str × V)) (hmz : ∀ q ∈ mz, q ∈ kws) (hk : kws ≠ [])
    (h : ∀ (D : Addr) (doc pm : Value) (an : Option Addr) (cdv ct : Value) (us ws mv : List Value), us.length = n → ws.length = ks.length → mv.length = mz.length →
      KwChain D ((mz.map (·.1)).zip mv) (bindArgs (PySem.W.fnOf x qual (defArgs st) (defBody st) (defScope st) .none (.ref D) doc pm an cdv ct) ⟨us, ks.zip ws⟩) (ps.zip (pick is (us ++ (ws ++ mv))))) : BndA K fd ps n ks is (mz.map (·.2)) := by
  obtain ⟨oc, od, dV, kV, doc, pm, an, cdv, ct, osl, rfl, lk, hcd, hD, hK⟩ := F.ex
  rcases hD with ⟨_, rfl⟩ | ⟨e, _⟩
  · rcases hK with e | ⟨D, rfl, hq⟩
    · exact absurd e hk
    · obtain ⟨mv, hl, rk, hks⟩ := kwd_vals (ms := mz) fun q hq' => hq q (hmz q hq')
      refine ⟨mv, rk, fun s us ws X h1 h2 => ?_⟩
      exact BindsTo.of_looks fun M => KwChain.looks X hks (h D doc pm an cdv ct us ws mv h1 h2 hl)
  · exact absurd rfl e
end
def dCallA (n m : Nat) (is : List Nat) (fs : FS) (dd : List D) (aa ak : DA) : DE := fun ds ms P => aa ds ms fun xs m1 => ak ds m1 fun zs m2 => xs.length = n ∧ zs.length = m ∧ fs (pick is (xs ++ (zs ++ dd))) m2 P
def dCallAZ (n m : Nat) (is : List Nat) (fx : FX) (dd : List D) (aa ak : DA) (Z : ZD) : DE := fun ds ms P => aa ds ms fun xs m1 => ak ds m1 fun zs m2 => xs.length = n ∧ zs.length = m ∧ fx (pick is (xs ++ (zs ++ dd))) m2 P fun c ns ys m' => Z c ns ys ds m'
section
variable {X : Cx} {W : WX} {Z : ZD} {k n m : Nat} {f : Addr} {fd : FuncData} {ps ks : List Str} {is : List Nat} {sp : Sp} {fs : FS} {fx : FX} {x : Str} {p pos : Pos} {e : Expr} {es : List Expr} {kws : List Keyword} {aa ak : DA} {dvs : List V} {dd : List D}
theorem run_gA {pins : List (Addr × Obj)} {σ : L2.St} {H : Hp} {s : Shared} {Q : VK} {us ws : List Value} {vs zs : List V} (F : FnG X.prog X.w X.K X.mg X.base k f fd ps sp) (hr : RoomG k X.A) (hb : BndA X.K fd ps n ks is dvs)
    (I : Inv X pins σ H s) (r : Vals vs us) (rz : Vals zs ws) (l1 : vs.length = n) (l2 : zs.length = ks.length) (h : sp (pick is (vs ++ (zs ++ dvs))) H Q E0) :
    wpAny (model X.prog X.w) X.A (call (.ref f) us (ks.zip ws)) (EP X pins σ Q) X.xe s := by
  obtain ⟨its, ri, hto⟩ := hb.to
  have hb' := hto s us ws I.kIn (r.length ▸ l1) (rz.length ▸ l2)
  refine wpAny_call (codeAny_mono (F.go X.A X.stack s H ⟨us, ks.zip ws⟩ _ _ Q hr I.env0 hb' (pick_vals (r.append (rz.append ri)) is) h) fun r s' hq => ?_)
  match r, hq with
  | .error _, hq => exact hq.elim
  | .ok (.ret u), hq => exact I.after hq
  | .ok .next, hq => exact False.elim hq
  | .ok .brk, hq => exact False.elim hq
  | .ok .cont, hq => exact False.elim hq
theorem run_xA {pins : List (Addr × Obj)} {σ : L2.St} {H : Hp} {s : Shared} {Q : VK} {us ws : List Value} {vs zs : List V} (tk : Takes X W) (F : FnX X.prog X.w X.K X.mg X.base k f fd ps (spX X.K fx)) (hr : RoomG k X.A) (hb : BndA X.K fd ps n ks is dvs)
    (I : Inv X pins σ H s) (r : Vals vs us) (rz : Vals zs ws) (l1 : vs.length = n) (l2 : zs.length = ks.length) (h : spX X.K fx (pick is (vs ++ (zs ++ dvs))) H Q fun cv d H3 => W cv d σ H3) :
    wpAny (model X.prog X.w) X.A (call (.ref f) us (ks.zip ws)) (EP X pins σ Q) X.xe s := by
  obtain ⟨its, ri, hto⟩ := hb.to
  have hb' := hto s us ws I.kIn (r.length ▸ l1) (rz.length ▸ l2)
  refine wpAny_call (codeAny_mono (F.go X.A X.stack s H ⟨us, ks.zip ws⟩ _ _ Q _ hr I.env0 hb' (pick_vals (r.append (rz.append ri)) is) h) fun r s' z => ?_)
  match r, z with
  | .error v, z => exact passAt tk σ pins H s v s' I z
  | .ok (.ret u), z => exact I.after z
  | .ok .next, z => exact False.elim z
  | .ok .brk, z => exact False.elim z
  | .ok .cont, z => exact False.elim z
def tCallGA (n m : Nat) (is : List Nat) (sp : Sp) (dvs : List V) (t tk : TA) : TE := fun σ H Q => t σ H fun vs H1 => tk σ H1 fun zs H2 => vs.length = n ∧ zs.length = m ∧ sp (pick is (vs ++ (zs ++ dvs))) H2 Q E0
def tCallXA (K : PySem.W.Frag) (W : WX) (n m : Nat) (is : List Nat) (fx : FX) (dvs : List V) (t tk : TA) : TE := fun σ H Q => t σ H fun vs H1 => tk σ H1 fun zs H2 => vs.length = n ∧ zs.length = m ∧ spX K fx (pick is (vs ++ (zs ++ dvs))) H2 Q fun cv d H3 => W cv d σ H3
theorem lift_callA {K : PySem.W.Frag} (hdd : ∀ F, DRs K F dvs dd) : ∀ σ H Q, lift K (dCallA n m is fs dd aa ak) σ H Q → tCallGA n m is (spD K fs) dvs (liftA K aa) (liftA K ak) σ H Q := fun σ H Q ⟨F, ds, ms, P, R, S, h1, h2⟩ =>
  ⟨F, ds, ms, _, R, S, h1, fun xs m1 vs F1 H1 p1 R1 s1 r1 => ⟨F1, ds, m1, _, R1, S.mono s1.sub, p1, fun zs m2 ws F2 H2 p2 R2 s2 r2 => by
    obtain ⟨l1, l2, p2⟩ := p2
    refine ⟨r1.length.trans l1, r2.length.trans l2, F2, _, m2, P, R2, pick_drs ((r1.mono s2.sub).append (r2.append (hdd F2))) is, p2, fun d m3 v F3 H3 p3 R3 s3 r3 => ?_⟩
    exact h2 d m3 v F3 H3 p3 R3 (s1.trans (s2.trans s3)) r3⟩⟩
theorem liftZ_callA {K : PySem.W.Frag} (hdd : ∀ F, DRs K F dvs dd) : ∀ σ H Q, liftZ K W Z (dCallAZ n m is fx dd aa ak Z) σ H Q → tCallXA K W n m is fx dvs (liftA K aa) (liftA K ak) σ H Q := fun σ H Q ⟨F, ds, ms, P, R, S, h1, h2, h3⟩ =>
  ⟨F, ds, ms, _, R, S, h1, fun xs m1 vs F1 H1 p1 R1 s1 r1 => ⟨F1, ds, m1, _, R1, S.mono s1.sub, p1, fun zs m2 ws F2 H2 p2 R2 s2 r2 => by
    obtain ⟨l1, l2, p2⟩ := p2
    refine ⟨r1.length.trans l1, r2.length.trans l2, F2, _, m2, P, _, R2, pick_drs ((r1.mono s2.sub).append (r2.append (hdd F2))) is, p2, fun d m3 v F3 H3 p3 R3 s3 r3 => ?_, fun c ns ys m3 cv d ws F3 H3 z R3 s3 hn hx hd => ?_⟩
    · exact h2 d m3 v F3 H3 p3 R3 (s1.trans (s2.trans s3)) r3
    · exact h3 c ns ys m3 cv d ws F3 H3 z R3 (s1.trans (s2.trans s3)) hn hx hd⟩⟩
theorem pd_callA (F : FnG X.prog X.w X.K X.mg X.base k f fd ps (spD X.K fs)) (hr : RoomG k X.A) (hg : Gl X x) (hm : X.mg x = some (.ref f)) (hk : PySem.W.keepIn X.K (.ref f) = true) (hb : BndA X.K fd ps n [] is dvs) (hdd : ∀ F, DRs X.K F dvs dd)
    (ha : PDA X (e :: es) aa) (hdb : (x == ("__debug__" : Str)) = false := by decide)
    (he : starEach (e :: es) X.env = (false, eval e X.env) :: starEach es X.env := by rfl)
    (hpl : (backTo pos (starEach es X.env)).any (·.1) = false := by rfl) :
    PD X (.Call (.Name x p) (e :: es) [] pos) (dCallA n 0 is fs dd aa aNil) := by
  refine peImp (t := tCallGA n 0 is (spD X.K fs) dvs (liftA X.K aa) tNil) ⟨fun pins s σ H Q I h => ?_⟩ fun σ H Q h => ?_
  · refine wpAny_Call_Name_kw (ld_glob I hg hm ?_ hdb)
    refine PySem.W.callWith_K (h₀ := X.base) I.ok.mod.kin hk (thn (ha.run pos pins s σ H _ I h) ?_) he hpl
    rintro us s1 ⟨vs, H1, I1, r, l1, l2, q⟩
    exact ⟨I1.kIn, run_gA (ws := []) (zs := []) (ks := []) F hr hb I1 r .nil l1 rfl q⟩
  · obtain ⟨F0, ds, ms, P, R, S, h1, h2⟩ := lift_callA hdd σ H Q h
    refine ⟨F0, ds, ms, P, R, S, h1, fun xs m v F1 H1 p1 R1 s1 r1 => ?_⟩
    obtain ⟨F2, ds2, m2, P2, R2, S2, p2, q2⟩ := h2 xs m v F1 H1 p1 R1 s1 r1
    exact q2 [] m2 [] F2 H1 p2 R2 Stp.refl .nil
theorem pd_callAK (F : FnG X.prog X.w X.K X.mg X.base k f fd ps (spD X.K fs)) (hr : RoomG k X.A) (hg : Gl X x) (hm : X.mg x = some (.ref f)) (hk : PySem.W.keepIn X.K (.ref f) = true) (hb : BndA X.K fd ps n ks is dvs) (hdd : ∀ F, DRs X.K F dvs dd)
    (ha : PDA X (e :: es) aa) (hkw : PDK X kws ak) (hdb : (x == ("__debug__" : Str)) = false := by decide)
    (hall : (backToKw pos (keywordEach kws X.env)).all (·.1.isSome) = true := by rfl) (hks : (backToKw pos (keywordEach kws X.env)).filterMap (·.1) = ks := by rfl)
    (he : starEach (e :: es) X.env = (false, eval e X.env) :: starEach es X.env := by rfl)
    (hpl : ((backTo pos (starEach (e :: es) X.env)).any (·.1) || (backToKw pos (keywordEach kws X.env)).any (·.1.isNone)) = false := by rfl)
    (hlen : ks.length = m := by rfl) :
    PD X (.Call (.Name x p) (e :: es) kws pos) (dCallA n m is fs dd aa ak) := by
  subst hlen
  refine peImp (t := tCallGA n ks.length is (spD X.K fs) dvs (liftA X.K aa) (liftA X.K ak)) ⟨fun pins s σ H Q I h => ?_⟩ (lift_callA hdd)
  refine wpAny_Call_Name_kw (ld_glob I hg hm ?_ hdb)
  refine PySem.W.callWith_KW (h₀ := X.base) I.ok.mod.kin hk hall (thn (ha.run pos pins s σ H _ I h) ?_) hpl he
  rintro us s1 ⟨vs, H1, I1, r, q⟩
  refine thn (hkw.run pos pins s1 σ H1 _ I1 q) ?_
  rintro ws s2 ⟨zs, H2, I2, rz, l1, l2, q2⟩
  refine ⟨I2.kIn, ?_⟩
  rw [hks]
  exact run_gA F hr hb I2 r rz l1 l2 q2
theorem pd_callAK0 (F : FnG X.prog X.w X.K X.mg X.base k f fd ps (spD X.K fs)) (hr : RoomG k X.A) (hg : Gl X x) (hm : X.mg x = some (.ref f)) (hk : PySem.W.keepIn X.K (.ref f) = true) (hb : BndA X.K fd ps 0 ks is dvs) (hdd : ∀ F, DRs X.K F dvs dd)
    (hkw : PDK X kws ak) (hdb : (x == ("__debug__" : Str)) = false := by decide)
    (hall : (backToKw pos (keywordEach kws X.env)).all (·.1.isSome) = true := by rfl) (hks : (backToKw pos (keywordEach kws X.env)).filterMap (·.1) = ks := by rfl)
    (hpl : ((backTo pos (starEach [] X.env)).any (·.1) || (backToKw pos (keywordEach kws X.env)).any (·.1.isNone)) = false := by rfl)
    (hlen : ks.length = m := by rfl) :
    PD X (.Call (.Name x p) [] kws pos) (dCallA 0 m is fs dd aNil ak) := by
  subst hlen
  refine peImp (t := tCallGA 0 ks.length is (spD X.K fs) dvs tNil (liftA X.K ak)) ⟨fun pins s σ H Q I h => ?_⟩ fun σ H Q h => ?_
  · refine wpAny_Call_Name_kw (ld_glob I hg hm ?_ hdb)
    refine PySem.W.callWith_KW0 (h₀ := X.base) I.ok.mod.kin hk hall (thn (hkw.run pos pins s σ H _ I h) ?_) hpl
    rintro ws s2 ⟨zs, H2, I2, rz, l1, l2, q2⟩
    refine ⟨I2.kIn, ?_⟩
    rw [hks]
    exact run_gA (us := []) F hr hb I2 .nil rz rfl l2 q2
  · obtain ⟨F0, ds, ms, P, R, S, h1, h2⟩ := lift_callA hdd σ H Q h
    exact h2 [] ms [] F0 H h1 R Stp.refl .nil
theorem pdz_callA (tk : Takes X W) (F : FnX X.prog X.w X.K X.mg X.base k f fd ps (spX X.K fx)) (hr : RoomG k X.A) (hg : Gl X x) (hm : X.mg x = some (.ref f)) (hk : PySem.W.keepIn X.K (.ref f) = true) (hb : BndA X.K fd ps n [] is dvs) (hdd : ∀ F, DRs X.K F dvs dd)
    (ha : PDA X (e :: es) aa) (hdb : (x == ("__debug__" : Str)) = false := by decide)
    (he : starEach (e :: es) X.env = (false, eval e X.env) :: starEach es X.env := by rfl)
    (hpl : (backTo pos (starEach es X.env)).any (·.1) = false := by rfl) :
    PDZ X W Z (.Call (.Name x p) (e :: es) [] pos) (dCallAZ n 0 is fx dd aa aNil Z) := by
  refine peImp (t := tCallXA X.K W n 0 is fx dvs (liftA X.K aa) tNil) ⟨fun pins s σ H Q I h => ?_⟩ fun σ H Q h => ?_
  · refine wpAny_Call_Name_kw (ld_glob I hg hm ?_ hdb)
    refine PySem.W.callWith_K (h₀ := X.base) I.ok.mod.kin hk (thn (ha.run pos pins s σ H _ I h) ?_) he hpl
    rintro us s1 ⟨vs, H1, I1, r, l1, l2, q⟩
    exact ⟨I1.kIn, run_xA (ws := []) (zs := []) (ks := []) tk F hr hb I1 r .nil l1 rfl q⟩
  · obtain ⟨F0, ds, ms, P, R, S, h1, h2⟩ := liftZ_callA hdd σ H Q h
    refine ⟨F0, ds, ms, P, R, S, h1, fun xs m v F1 H1 p1 R1 s1 r1 => ?_⟩
    obtain ⟨F2, ds2, m2, P2, R2, S2, p2, q2⟩ := h2 xs m v F1 H1 p1 R1 s1 r1
    exact q2 [] m2 [] F2 H1 p2 R2 Stp.refl .nil
theorem pdz_callAK (tk : Takes X W) (F : FnX X.prog X.w X.K X.mg X.base k f fd ps (spX X.K fx)) (hr : RoomG k X.A) (hg : Gl X x) (hm : X.mg x = some (.ref f)) (hk : PySem.W.keepIn X.K (.ref f) = true) (hb : BndA X.K fd ps n ks is dvs) (hdd : ∀ F, DRs X.K F dvs dd)
    (ha : PDA X (e :: es) aa) (hkw : PDK X kws ak) (hdb : (x == ("__debug__" : Str)) = false := by decide)
    (hall : (backToKw pos (keywordEach kws X.env)).all (·.1.isSome) = true := by rfl) (hks : (backToKw pos (keywordEach kws X.env)).filterMap (·.1) = ks := by rfl)
    (he : starEach (e :: es) X.env = (false, eval e X.env) :: starEach es X.env := by rfl)
    (hpl : ((backTo pos (starEach (e :: es) X.env)).any (·.1) || (backToKw pos (keywordEach kws X.env)).any (·.1.isNone)) = false := by rfl)
    (hlen : ks.length = m := by rfl) :
    PDZ X W Z (.Call (.Name x p) (e :: es) kws pos) (dCallAZ n m is fx dd aa ak Z) := by
  subst hlen
  refine peImp (t := tCallXA X.K W n ks.length is fx dvs (liftA X.K aa) (liftA X.K ak)) ⟨fun pins s σ H Q I h => ?_⟩ (liftZ_callA hdd)
  refine wpAny_Call_Name_kw (ld_glob I hg hm ?_ hdb)
  refine PySem.W.callWith_KW (h₀ := X.base) I.ok.mod.kin hk hall (thn (ha.run pos pins s σ H _ I h) ?_) hpl he
  rintro us s1 ⟨vs, H1, I1, r, q⟩
  refine thn (hkw.run pos pins s1 σ H1 _ I1 q) ?_
  rintro ws s2 ⟨zs, H2, I2, rz, l1, l2, q2⟩
  refine ⟨I2.kIn, ?_⟩
  rw [hks]
  exact run_xA tk F hr hb I2 r rz l1 l2 q2
theorem pdz_callAK0 (tk : Takes X W) (F : FnX X.prog X.w X.K X.mg X.base k f fd ps (spX X.K fx)) (hr : RoomG k X.A) (hg : Gl X x) (hm : X.mg x = some (.ref f)) (hk : PySem.W.keepIn X.K (.ref f) = true) (hb : BndA X.K fd ps 0 ks is dvs) (hdd : ∀ F, DRs X.K F dvs dd)
    (hkw : PDK X kws ak) (hdb : (x == ("__debug__" : Str)) = false := by decide)
    (hall : (backToKw pos (keywordEach kws X.env)).all (·.1.isSome) = true := by rfl) (hks : (backToKw pos (keywordEach kws X.env)).filterMap (·.1) = ks := by rfl)
    (hpl : ((backTo pos (starEach [] X.env)).any (·.1) || (backToKw pos (keywordEach kws X.env)).any (·.1.isNone)) = false := by rfl)
    (hlen : ks.length = m := by rfl) :
    PDZ X W Z (.Call (.Name x p) [] kws pos) (dCallAZ 0 m is fx dd aNil ak Z) := by
  subst hlen
  refine peImp (t := tCallXA X.K W 0 ks.length is fx dvs tNil (liftA X.K ak)) ⟨fun pins s σ H Q I h => ?_⟩ fun σ H Q h => ?_
  · refine wpAny_Call_Name_kw (ld_glob I hg hm ?_ hdb)
    refine PySem.W.callWith_KW0 (h₀ := X.base) I.ok.mod.kin hk hall (thn (hkw.run pos pins s σ H _ I h) ?_) hpl
    rintro ws s2 ⟨zs, H2, I2, rz, l1, l2, q2⟩
    refine ⟨I2.kIn, ?_⟩
    rw [hks]
    exact run_xA (us := []) tk F hr hb I2 .nil rz rfl l2 q2
  · obtain ⟨F0, ds, ms, P, R, S, h1, h2⟩ := liftZ_callA hdd σ H Q h
    exact h2 [] ms [] F0 H h1 R Stp.refl .nil
end
section
variable {n k : Nat} {is : List Nat} {fs : FS} {fx : FX} {dd xs zs ys : List D} {aa ak : DA} {ds : DS} {ms m : MS} {P : D → MS → Prop} {Z : ZD}
def mCallA (n k : Nat) (is : List Nat) (fs : FS) (dd xs zs : List D) (m : MS) (P : D → MS → Prop) : Prop := xs.length = n ∧ zs.length = k ∧ fs (pick is (xs ++ (zs ++ dd))) m P
theorem w_callA (h : ArG aa ds ms fun xs m1 => ArG ak ds m1 fun zs m2 => mCallA n k is fs dd xs zs m2 P) : dCallA n k is fs dd aa ak ds ms P := h
theorem w_mCallA (e1 : xs.length = n) (e2 : zs.length = k) (e : pick is (xs ++ (zs ++ dd)) = ys) (h : fs ys m P) : mCallA n k is fs dd xs zs m P := ⟨e1, e2, by rw [e]; exact h⟩
def mCallAZ (n k : Nat) (is : List Nat) (fx : FX) (dd : List D) (Z : ZD) (ds : DS) (xs zs : List D) (m : MS) (P : D → MS → Prop) : Prop := xs.length = n ∧ zs.length = k ∧ fx (pick is (xs ++ (zs ++ dd))) m P fun c ns ys m' => Z c ns ys ds m'
theorem w_callAZ (h : ArG aa ds ms fun xs m1 => ArG ak ds m1 fun zs m2 => mCallAZ n k is fx dd Z ds xs zs m2 P) : dCallAZ n k is fx dd aa ak Z ds ms P := h
theorem w_mCallAZ (e1 : xs.length = n) (e2 : zs.length = k) (e : pick is (xs ++ (zs ++ dd)) = ys) (h : fx ys m P fun c ns ys m' => Z c ns ys ds m') : mCallAZ n k is fx dd Z ds xs zs m P := ⟨e1, e2, by rw [e]; exact h⟩
end
end DL

namespace DL
open PySem PySem.Spec PyProof.Rows L2

/-! ### a list or a tuple laid into a display -/
def asT (d : D) (ms : MS) : Option (List D) := match d with
  | .tup xs => some xs
  | d => asL d ms
def aStar (de : DE) (da : DA) : DA := fun ds ms P => de ds ms fun d m1 => match asT d m1 with
  | some xs => da ds m1 fun ys m2 => P (xs ++ ys) m2
  | none => False
section
variable {X : Cx} {K : PySem.W.Frag} {da : DE} {e : Expr} {es : List Expr} {p : Pos} {aa : DA}
theorem Rel.asT {F H : Hp} {ms : MS} (R : Rel K F H ms) {v : V} {d : D} {xs : List D} (r : DR K F v d) (h : asT d ms = some xs) : ∃ a vs, v = .ref a ∧ (SqT K H a vs ∨ SqL K H a vs) ∧ DRs K F vs xs := by
  cases r with
  | tup h1 h2 => cases h; exact ⟨_, _, rfl, .inl (R.sub.sqT h1), h2⟩
  | lst h1 h2 => obtain ⟨a, vs, e, h3, h4⟩ := R.asL (.lst h1 h2) h; exact ⟨a, vs, e, .inr h3, h4⟩
  | fro h1 h2 => obtain ⟨a, vs, e, h3, h4⟩ := R.asL (.fro h1 h2) h; exact ⟨a, vs, e, .inr h3, h4⟩
  | opq v => obtain ⟨a, vs, e, h3, h4⟩ := R.asL (.opq v) h; exact ⟨a, vs, e, .inr h3, h4⟩
  | _ => cases h
theorem pda_star (ha : PD X e da) (hr : PDA X es aa) (hs : starEach (.Starred e p :: es) X.env = (true, eval e X.env) :: starEach es X.env := by rfl) : PDA X (.Starred e p :: es) (aStar da aa) :=
  paImp (StX.pa_star ha hr hs) fun σ H Q ⟨F, ds, ms, P, R, S, h1, h2⟩ =>
    ⟨F, ds, ms, _, R, S, h1, fun dx m1 x F1 H1 p1 R1 s1 r1 => by
      revert p1
      split
      · rename_i xs e1
        intro p1
        obtain ⟨a, vs, rfl, h3, h4⟩ := R1.asT r1 e1
        exact ⟨a, vs, rfl, h3, F1, ds, m1, _, R1, S.mono s1.sub, p1, fun ys m2 ws F2 H2 p2 R2 s2 r2 =>
          h2 _ m2 (vs ++ ws) F2 H2 p2 R2 (s1.trans s2) ((h4.mono s2.sub).append r2)⟩
      · intro p1; exact p1.elim⟩
end
end DL

namespace DL
open PySem PySem.Spec PyProof.Rows L2

/-! ### lists that are born as comprehensions, sums, copies, and written to -/
def dLcM (di : DI) (g : DG) (tt : DT) (te : DE) (vs : List Nat) : DE := fun ds ms P => di ds ms fun xs m => compD g tt te (wipeD ds vs) xs [] m fun ys m' => ∀ p, (∀ q ∈ m', q.1 ≠ p) → P (.opq (.ref p)) ((p, ys) :: m')
section
variable {K : PySem.W.Frag} {di : DI} {dg : DG} {tt : DT} {te : DE} {g : TG} {vs : List Nat}
theorem lift_lcM (hg : TgD K g dg vs) (hm : MonG g) : ∀ σ H Q, lift K (dLcM di dg tt te vs) σ H Q → tLc (liftI K di) g (liftT K tt) (lift K te) vs σ H Q := fun σ H Q ⟨F, ds, ms, P, R, S, h, q⟩ => by
  refine ⟨F, ds, ms, _, R, S, h, fun xs m F0 H0 J p0 R0 s0 wk L hL => ?_⟩
  have nL : F0 L = none := R0.sub.none hL
  have nM : ∀ p ∈ m, p.1 ≠ L := fun p hp => by
    obtain ⟨_, ws, h2, _⟩ := R0.mu p hp
    exact ne_of_none h2 hL
  refine lc_it wk (fun i H1 => ∃ F1 m1 acc av, Rel K F1 H1 m1 ∧ Stp F0 H0 m F1 H1 m1 ∧ H1 L = some (.lst av) ∧ F1 L = none ∧ (∀ p ∈ m1, p.1 ≠ L) ∧ DRs K F1 av acc ∧ compD dg tt te (wipeD ds vs) (xs.drop i) acc m1 fun ys m' => ∀ p, (∀ q ∈ m', q.1 ≠ p) → P (.opq (.ref p)) ((p, ys) :: m'))
    ⟨F0, m, [], [], R0.lay hL, ⟨Sub.refl F0, fun a u h1 _ _ => by rw [upd_ne (ne_of_none h1 hL)]; exact h1, fun _ _ h => .inl h, fun q hq => .inl ⟨q, hq, rfl⟩⟩, upd_same, nL, nM, .nil, p0⟩
    (fun i H1 _ ⟨F1, m1, acc, av, R1, s1, _⟩ => s1.sub.trans R1.sub) ?_ ?_
  · rintro i x H1 H2 hi ⟨F1, m1, acc, av, R1, s1, hD, hF, hM, ra, h1⟩ ⟨d, hd, hy⟩
    rw [drop_get hd] at h1
    have fin : ∀ {F2 : Hp} {x : V}, Rel K F2 H2 m1 → Stp F0 H0 m F2 H2 m1 → Sub F1 F2 → DR K F2 x d → H2 L = some (.lst av) → F2 L = none →
        g x (L2.wipe σ vs) H2 fun σ2 H3 => L2.wipe σ2 vs = L2.wipe σ vs ∧ liftT K tt σ2 H3 fun b H4 => if b = true then lift K te σ2 H4 fun y H5 => ∃ acc, H5 L = some (.lst acc) ∧ acc.length < sizeLine ∧
          (∃ F1 m1 acc' av, Rel K F1 (upd H5 L (.lst (acc ++ [y]))) m1 ∧ Stp F0 H0 m F1 (upd H5 L (.lst (acc ++ [y]))) m1 ∧ (upd H5 L (.lst (acc ++ [y]))) L = some (.lst av) ∧ F1 L = none ∧ (∀ p ∈ m1, p.1 ≠ L) ∧ DRs K F1 av acc' ∧ compD dg tt te (wipeD ds vs) (xs.drop (i + 1)) acc' m1 fun ys m' => ∀ p, (∀ q ∈ m', q.1 ≠ p) → P (.opq (.ref p)) ((p, ys) :: m'))
          else ∃ F1 m1 acc av, Rel K F1 H4 m1 ∧ Stp F0 H0 m F1 H4 m1 ∧ H4 L = some (.lst av) ∧ F1 L = none ∧ (∀ p ∈ m1, p.1 ≠ L) ∧ DRs K F1 av acc ∧ compD dg tt te (wipeD ds vs) (xs.drop (i + 1)) acc m1 fun ys m' => ∀ p, (∀ q ∈ m', q.1 ≠ p) → P (.opq (.ref p)) ((p, ys) :: m') := by
      intro F2 x R2 s2 s12 rx hD2 hF2
      have hw := hg.wip x (L2.wipe σ vs) H2 _ (hg.snd x (L2.wipe σ vs) F2 H2 (fun σ2 H3 => H3 = H2 ∧ ∃ ds2, Sl K F2 σ2 ds2 ∧ tt ds2 m1 fun b m3 => if b = true then te ds2 m3 fun y m4 => acc.length < sizeLine ∧ compD dg tt te (wipeD ds vs) (xs.drop (i + 1)) (acc ++ [y]) m4 fun ys m' => ∀ p, (∀ q ∈ m', q.1 ≠ p) → P (.opq (.ref p)) ((p, ys) :: m') else compD dg tt te (wipeD ds vs) (xs.drop (i + 1)) acc m3 fun ys m' => ∀ p, (∀ q ∈ m', q.1 ≠ p) → P (.opq (.ref p)) ((p, ys) :: m')) d (wipeD ds vs) _ R2.sub ((S.wipe vs).mono (s0.sub.trans s2.sub)) rx h1 fun ds2 σ2 h2 S2 => ⟨rfl, ds2, S2, h2⟩)
      refine hm _ _ _ _ _ ?_ hw
      rintro σ2 H3 ⟨e1, rfl, ds2, S2, h2⟩
      refine ⟨e1.trans (wipe_wipe fun u hu => hu), F2, ds2, m1, _, R2, S2, h2, fun b m4 F4 H4 p4 R4 s4 => ?_⟩
      obtain ⟨hD4, hF4, hM4⟩ := s4.kp hD2 hF2 hM
      cases b with
      | false =>
        rw [if_neg Bool.false_ne_true] at p4 ⊢
        exact ⟨F4, m4, acc, av, R4, s2.trans s4, hD4, hF4, hM4, (ra.mono s12).mono s4.sub, p4⟩
      | true =>
        rw [if_pos rfl] at p4 ⊢
        refine ⟨F4, ds2, m4, _, R4, S2.mono s4.sub, p4, fun y m5 v5 F5 H5 p5 R5 s5 r5 => ?_⟩
        obtain ⟨hD5, hF5, hM5⟩ := s5.kp hD4 hF4 hM4
        have ra5 := ((ra.mono s12).mono s4.sub).mono s5.sub
        have s05 := (s2.trans s4).trans s5
        refine ⟨av, hD5, by rw [ra.length]; exact p5.1, F5, m5, acc ++ [y], av ++ [v5], ?_, ?_, upd_same, hF5, hM5, ra5.append (.cons r5 .nil), p5.2⟩
        · refine ⟨fun b u e => ?_, fun p hp => ?_, R5.nd, R5.one⟩
          · rw [upd_ne (fun z => by rw [z, hF5] at e; cases e)]; exact R5.sub b u e
          · obtain ⟨z1, ws, z2, z3⟩ := R5.mu p hp
            exact ⟨z1, ws, by rw [upd_ne (hM5 p hp)]; exact z2, z3⟩
        · exact ⟨s05.sub, fun a u z1 z2 z3 => by rw [upd_ne (ne_of_none z1 hL)]; exact s05.keep a u z1 z2 z3, s05.newF, s05.newM⟩
    rcases hy with ⟨rfl, rx⟩ | ⟨T, a, b, da, db, rfl, hT, rfl, rfl, ra', rb'⟩
    · exact fin R1 s1 (Sub.refl F1) (rx.mono s1.sub) hD hF
    · have hne : L ≠ T := ne_of_none hD hT
      exact fin (R1.new hT) (s1.trans (Stp.new R1 hT)) (Sub.new (R1.sub.none hT)) (R1.newTup hT (.cons (ra'.mono s1.sub) (.cons (rb'.mono s1.sub) .nil))) (by rw [upd_ne hne]; exact hD) (by rw [upd_ne hne]; exact hF)
  · rintro H1 ⟨F1, m1, acc, av, R1, s1, hD, hF, hM, ra, h1⟩
    rw [List.drop_length] at h1
    refine q _ ((L, acc) :: m1) (.ref L) F1 H1 (h1 L hM) ?_ (s0.trans ?_) (.opq _)
    · refine ⟨R1.sub, fun p hp => ?_, ?_, R1.one⟩
      · rcases List.mem_cons.mp hp with rfl | hp
        · exact ⟨hF, av, hD, ra⟩
        · exact R1.mu p hp
      · rw [List.map_cons, List.nodup_cons]
        refine ⟨fun hm => ?_, R1.nd⟩
        obtain ⟨q, hq, e⟩ := List.mem_map.mp hm
        exact hM q hq e
    · refine ⟨s1.sub, s1.keep, s1.newF, fun p hp => ?_⟩
      rcases List.mem_cons.mp hp with rfl | hp
      · exact .inr (.inl hL)
      · exact s1.newM p hp
end
section
variable {X : Cx} {elt tg iter : Expr} {ifs : List Expr} {scope : Scope} {own : List (Str × Nat)} {pos spos py : Pos} {di : DI} {g : TG} {dg : DG} {tt : DT} {te : DE} {i : Nat} {y : Str}
theorem pd_lcM (hc : X.calm = true) (hN : X.N.Nodup) (hi : PDI X tg iter di) (ok : BlkOk X.N X.env.scope scope own)
    (hg : ∀ (s : Shared) (H : Hp) (C : Addr) (cl : List (Str × Addr)) (fp : List Addr), PG (X.blk s H scope (compEnvC scope cl C X.env) fp) tg g)
    (hd : TgD X.K g dg (own.map (·.2))) (hm : MonG g)
    (ht : ∀ (s : Shared) (H : Hp) (C : Addr) (cl : List (Str × Addr)) (fp : List Addr), PDTs (X.blk s H scope (compEnvC scope cl C X.env) fp) ifs tt)
    (he : ∀ (s : Shared) (H : Hp) (C : Addr) (cl : List (Str × Addr)) (fp : List Addr), PD (X.blk s H scope (compEnvC scope cl C X.env) fp) elt te)
    (hs : ∀ x, foldedSetIterable iter X.env x = pure x := by intro _; rfl) :
    PD X (.ListComp elt [⟨tg, iter, ifs, 0⟩] scope pos) (dLcM di dg tt te (own.map (·.2))) :=
  peImp (pe_lc hc hN hi ok hg ht he hs) (lift_lcM hd hm)
theorem pds_setLcM (hc : X.calm = true) (hN : X.N.Nodup) (hy : X.N[i]? = some y) (hyl : X.env.scope.names.lookup y = some .local)
    (hsw : swapsWith (.ListComp elt [⟨tg, iter, ifs, 0⟩] scope pos) (some (.Name y py)) spos.line X.env = pure true) (hi : PDI X tg iter di) (ok : BlkOk X.N X.env.scope scope own)
    (hg : ∀ (s : Shared) (H : Hp) (C : Addr) (cl : List (Str × Addr)) (fp : List Addr), PG (X.blk s H scope (compEnvC scope cl C X.env) fp) tg g)
    (hd : TgD X.K g dg (own.map (·.2))) (hm : MonG g)
    (ht : ∀ (s : Shared) (H : Hp) (C : Addr) (cl : List (Str × Addr)) (fp : List Addr), PDTs (X.blk s H scope (compEnvC scope cl C X.env) fp) ifs tt)
    (he : ∀ (s : Shared) (H : Hp) (C : Addr) (cl : List (Str × Addr)) (fp : List Addr), PD (X.blk s H scope (compEnvC scope cl C X.env) fp) elt te)
    (hs : ∀ x, foldedSetIterable iter X.env x = pure x := by intro _; rfl) :
    PDS X (.Assign [.Name y py] (.ListComp elt [⟨tg, iter, ifs, 0⟩] scope pos) spos) (dAsg (dLcM di dg tt te (own.map (·.2))) (sName i)) :=
  psImp (ps_setLc hc hN hy hyl hsw hi ok hg ht he hs) fun D σ H h => by
    obtain ⟨F, ds, ms, P, R, S, z1, z2⟩ := h
    exact lift_lcM hd hm σ H _ ⟨F, ds, ms, _, R, S, z1, fun d m v F1 H1 p1 R1 s1 r1 => z2.1 _ m _ F1 H1 p1 R1 s1 ((S.mono s1.sub).set r1 i)⟩
end
/-- a + b, lists, written to -/
def fAddM : OF := fun x y ms P => match x, y with
  | .lst a, .lst b => a.length + b.length ≤ sizeLine ∧ ∀ p, (∀ q ∈ ms, q.1 ≠ p) → P (.opq (.ref p)) ((p, a ++ b) :: ms)
  | _, _ => False
theorem opd_addM {K : PySem.W.Frag} : OpD K (rAddD K) fAddM := by
  intro F H ms x y dx dy P Q R rx ry h q
  cases rx with
  | lst h1 r1 => cases ry with
    | lst h2 r2 =>
      refine .inr (.inr (.inl ⟨_, _, _, _, rfl, rfl, R.sub _ _ h1, R.sub _ _ h2, by rw [r1.length, r2.length]; exact h.1, fun p hp => ?_⟩))
      exact q _ _ _ F _ (h.2 p (R.newMut hp (r1.append r2)).1) (R.newMut hp (r1.append r2)).2 (Stp.newMut hp) (.opq _)
    | _ => exact h.elim
  | _ => exact h.elim
/-- a * k, a list, written to -/
def fMulM : OF := fun x y ms P => match x, y with
  | .lst a, .int k => (-(2 ^ 63) ≤ k ∧ k < 2 ^ 63 ∧ a.length * k.toNat ≤ sizeLine) ∧ ∀ p, (∀ q ∈ ms, q.1 ≠ p) → P (.opq (.ref p)) ((p, (List.replicate k.toNat a).flatten) :: ms)
  | _, _ => False
theorem opd_mulM {K : PySem.W.Frag} : OpD K rMulD fMulM := by
  intro F H ms x y dx dy P Q R rx ry h q
  cases rx with
  | lst h1 r1 => cases ry with
    | int k =>
      obtain ⟨⟨z1, z2, z3⟩, z4⟩ := h
      refine .inr ⟨_, k, _, rfl, rfl, R.sub _ _ h1, z1, z2, by rw [r1.length]; exact z3, fun p hp => ?_⟩
      exact q _ _ _ F _ (z4 p (R.newMut hp (r1.rep k.toNat)).1) (R.newMut hp (r1.rep k.toNat)).2 (Stp.newMut hp) (.opq _)
    | _ => exact h.elim
  | _ => exact h.elim
/-- list(x), written to -/
def cListM : CF := fun xs ms P => match xs with
  | [.tup ys] => ∀ p, (∀ q ∈ ms, q.1 ≠ p) → P (.opq (.ref p)) ((p, ys) :: ms)
  | [.lst ys] => ∀ p, (∀ q ∈ ms, q.1 ≠ p) → P (.opq (.ref p)) ((p, ys) :: ms)
  | _ => False
theorem cal_listM {K : PySem.W.Frag} : CalD K (fun xs H Q => ∃ p ys, xs = [.ref p] ∧ (SqL K H p ys ∨ SqT K H p ys) ∧ ∀ l, H l = none → Q (.ref l) (upd H l (.lst ys))) cListM := fun F H ms vs xs P Q R r h q => by
  match xs, r, h with
  | a :: _ :: _, _, h => cases a <;> exact h.elim
  | [d], .cons (v := v) rd .nil, h =>
    cases rd with
    | tup ha hs => exact ⟨_, _, rfl, .inr (R.sub.sqT ha), fun l hl => q _ _ _ F _ (h l (R.newMut hl hs).1) (R.newMut hl hs).2 (Stp.newMut hl) (.opq _)⟩
    | lst ha hs => exact ⟨_, _, rfl, .inl (SqL.of (R.sub _ _ ha)), fun l hl => q _ _ _ F _ (h l (R.newMut hl hs).1) (R.newMut hl hs).2 (Stp.newMut hl) (.opq _)⟩
    | _ => exact h.elim
theorem w_listM_t {ys : List D} {ms : MS} {P : D → MS → Prop} (h : ∀ p, (∀ q ∈ ms, q.1 ≠ p) → P (.opq (.ref p)) ((p, ys) :: ms)) : cListM [.tup ys] ms P := h
theorem w_listM_l {ys : List D} {ms : MS} {P : D → MS → Prop} (h : ∀ p, (∀ q ∈ ms, q.1 ≠ p) → P (.opq (.ref p)) ((p, ys) :: ms)) : cListM [.lst ys] ms P := h
/-- ahead of a statement a list that changes no more is made fast -/
def dFrzS (i : Nat) (t : DTS) : DTS := fun E ds ms => match slot ds i with
  | some (.opq (.ref p)) => (match look ms p with
    | some xs => t E (setSlot ds i (.lst xs)) (drp ms p)
    | none => False)
  | _ => False
theorem setSlot_σ : ∀ {K : PySem.W.Frag} {F : Hp} {σ : L2.St} {ds : DS} {i : Nat} {v : V} {d : D}, Sl K F σ ds → σ[i]? = some (some v) → DR K F v d → Sl K F σ (setSlot ds i d)
  | _, _, _, _, i, _, _, .nil, _, _ => by cases i <;> exact .nil
  | _, _, _, _, 0, _, _, .sm h r, e, q => by cases e; exact .sm q r
  | _, _, _, _, 0, _, _, .nn r, e, q => by
    have e' := Option.some.inj e
    subst e'
    exact .sm q r
  | _, _, _, _, i + 1, _, _, .sm h r, e, q => .sm h (setSlot_σ (i := i) r e q)
  | _, _, _, _, i + 1, _, _, .nn r, e, q => .nn (setSlot_σ (i := i) r e q)
theorem liftS_frz {K : PySem.W.Frag} {t : DTS} {i : Nat} : ∀ D σ H, liftS K (dFrzS i t) D σ H → liftS K t D σ H := fun D σ H ⟨F, ds, ms, E, R, S, h, n, r, k, q⟩ => by
  unfold dFrzS at h
  split at h
  · rename_i p e
    split at h
    · rename_i xs e1
      obtain ⟨v, hv, hr⟩ := S.get e
      cases hr
      obtain ⟨vs, z1, z2, z3⟩ := relFrz R e1
      exact ⟨_, _, _, E, z1, setSlot_σ (S.mono z2.sub) hv z3, h, fun ds' m' σ' F' H' h' R' s' S' => n ds' m' σ' F' H' h' R' (z2.trans s') S', fun d m' v' F' H' h' R' s' r' => r d m' v' F' H' h' R' (z2.trans s') r',
        fun ds' m' σ' F' H' h' R' s' S' => k ds' m' σ' F' H' h' R' (z2.trans s') S', fun ds' m' σ' F' H' h' R' s' S' => q ds' m' σ' F' H' h' R' (z2.trans s') S'⟩
    · exact h.elim
  · exact h.elim
theorem pds_frz {X : Cx} {st : Stmt} {t : DTS} {i : Nat} (h : PDS X st t) : PDS X st (dFrzS i t) := psImp h liftS_frz
theorem w_frzS {t : DTS} {E : EN} {ds ds' : DS} {ms ms' : MS} {i : Nat} {p : Addr} {xs : List D} (e : slot ds i = some (.opq (.ref p))) (e1 : look ms p = some xs) (e2 : setSlot ds i (.lst xs) = ds') (e3 : drp ms p = ms') (h : StG t E ds' ms') : dFrzS i t E ds ms := by
  unfold dFrzS; simp only [e, e1, e2, e3]; exact h
theorem w_lcM {di : DI} {g : DG} {tt : DT} {te : DE} {vs : List Nat} {ds : DS} {ms : MS} {P : D → MS → Prop} (h : ItG di ds ms fun xs m => compD g tt te (wipeD ds vs) xs [] m fun ys m' => ∀ p, (∀ q ∈ m', q.1 ≠ p) → P (.opq (.ref p)) ((p, ys) :: m')) : dLcM di g tt te vs ds ms P := h
theorem w_addM {a c : List D} {ms : MS} {P : D → MS → Prop} (h : a.length + c.length ≤ sizeLine ∧ ∀ p, (∀ q ∈ ms, q.1 ≠ p) → P (.opq (.ref p)) ((p, a ++ c) :: ms)) : fAddM (.lst a) (.lst c) ms P := h
/-! ### a list that is written to, lent to an expression that tells flat data -/
mutual
def flat : D → Bool
  | .non => true
  | .bl _ => true
  | .int _ => true
  | .str _ => true
  | .tup xs => flats xs
  | .opq _ => true
  | .lst _ => false
  | .fro _ => false
  | .edic => false
  | .dct _ => false
  | .exc _ _ _ => false
def flats : List D → Bool
  | [] => true
  | x :: r => flat x && flats r
end
def flatM (ms : MS) : Prop := ∀ q ∈ ms, flats q.2 = true
mutual
theorem DR.flat {K : PySem.W.Frag} {F F' : Hp} (e : ∀ b vs, (F b = some (.tup vs) → F' b = some (.tup vs)) ∧ ∀ o, F b = some (.frz o (.tup vs)) → F' b = some (.frz o (.tup vs))) : ∀ {v : V} {d : D}, flat d = true → DR K F v d → DR K F' v d
  | _, _, _, .non => .non
  | _, _, _, .bl b => .bl b
  | _, _, _, .int i => .int i
  | _, _, _, .str x => .str x
  | _, _, h, .tup (a := a) (xs := xs) hq hs => .tup (by
      rcases hq with (h1 | ⟨o, h1⟩) | h1
      · exact .inl (.inl ((e _ _).1 h1))
      · exact .inl (.inr ⟨o, (e _ _).2 o h1⟩)
      · exact .inr h1) (DRs.flat e h hs)
  | _, _, _, .opq v => .opq v
  | _, _, h, .lst _ _ => by cases h
  | _, _, h, .fro _ _ => by cases h
  | _, _, h, .edic _ => by cases h
  | _, _, h, .dct _ => by cases h
  | _, _, h, .exc _ _ _ _ => by cases h
theorem DRs.flat {K : PySem.W.Frag} {F F' : Hp} (e : ∀ b vs, (F b = some (.tup vs) → F' b = some (.tup vs)) ∧ ∀ o, F b = some (.frz o (.tup vs)) → F' b = some (.frz o (.tup vs))) : ∀ {vs : List V} {ds : List D}, flats ds = true → DRs K F vs ds → DRs K F' vs ds
  | _, _, _, .nil => .nil
  | _, _, h, .cons h1 h2 => .cons (DR.flat e (Bool.and_eq_true_iff.mp h).1 h1) (DRs.flat e (Bool.and_eq_true_iff.mp h).2 h2)
end
def dLoan (i : Nat) (de : DE) : DE := fun ds ms P => match slot ds i with
  | some (.opq (.ref p)) => (match look ms p with
    | some xs => de (setSlot ds i (.lst xs)) (drp ms p) fun d m => flat d = true ∧ flatM m ∧ P d ((p, xs) :: m)
    | none => False)
  | _ => False
theorem lift_loan {K : PySem.W.Frag} {i : Nat} {de : DE} : ∀ σ H Q, lift K (dLoan i de) σ H Q → lift K de σ H Q := fun σ H Q ⟨F, ds, ms, P, R, S, h1, h2⟩ => by
  unfold dLoan at h1
  split at h1
  · rename_i p e
    split at h1
    · rename_i xs e1
      obtain ⟨v, hv, hr⟩ := S.get e
      cases hr
      obtain ⟨hF, vs0, hH, rs⟩ := R.look e1
      obtain ⟨vs, z1, z2, z3⟩ := relFrz R e1
      have evs : vs = vs0 := by
        have := z1.sub p _ upd_same
        rw [hH] at this
        cases this
        rfl
      subst evs
      refine ⟨_, _, _, _, z1, setSlot_σ (S.mono z2.sub) hv z3, h1, fun d m v F2 H2 hp R2 s2 r2 => ?_⟩
      obtain ⟨fd, fm, hp⟩ := hp
      have hF2 : F2 p = some (.lst vs) := s2.sub p _ upd_same
      have sub3 : Sub F fun b => if b = p then none else F2 b := fun b o hb => by
        have hbp : b ≠ p := fun z => by rw [z, hF] at hb; cases hb
        show (if b = p then none else F2 b) = some o
        rw [if_neg hbp]
        exact s2.sub b o (by rw [upd_ne hbp]; exact hb)
      have ee : ∀ b ws, (F2 b = some (.tup ws) → (fun b => if b = p then none else F2 b) b = some (.tup ws)) ∧ ∀ o, F2 b = some (.frz o (.tup ws)) → (fun b => if b = p then none else F2 b) b = some (.frz o (.tup ws)) := by
        intro b ws
        refine ⟨fun hb => ?_, fun o hb => ?_⟩
        · have hbp : b ≠ p := fun z => by rw [z, hF2] at hb; cases hb
          show (if b = p then none else F2 b) = _
          rw [if_neg hbp]; exact hb
        · have hbp : b ≠ p := fun z => by rw [z, hF2] at hb; cases hb
          show (if b = p then none else F2 b) = _
          rw [if_neg hbp]; exact hb
      refine h2 d ((p, xs) :: m) v (fun b => if b = p then none else F2 b) H2 hp ⟨fun b o hb => ?_, fun q hq => ?_, ?_, R.one.mono sub3⟩ ⟨sub3, fun a o k1 k2 k3 => ?_, fun a o k1 => ?_, fun q hq => ?_⟩ (r2.flat ee fd)
      · have hb : (if b = p then none else F2 b) = some o := hb
        split at hb
        · cases hb
        · exact R2.sub b o hb
      · rcases List.mem_cons.mp hq with rfl | hq
        · exact ⟨if_pos rfl, vs, R2.sub _ _ hF2, rs.mono sub3⟩
        · obtain ⟨y1, us, y2, y3⟩ := R2.mu q hq
          refine ⟨?_, us, y2, y3.flat ee (fm q hq)⟩
          show (if q.1 = p then none else F2 q.1) = none
          split
          · rfl
          · exact y1
      · rw [List.map_cons, List.nodup_cons]
        refine ⟨fun hm => ?_, R2.nd⟩
        obtain ⟨q, hq, eq⟩ := List.mem_map.mp hm
        obtain ⟨y1, _⟩ := R2.mu q hq
        have eq' : q.1 = p := eq
        rw [eq', hF2] at y1
        cases y1
      · have hap : a ≠ p := fun z => k3 _ (look_mem e1) z.symm
        exact s2.keep a o k1 (by rw [upd_ne hap]; exact k2) fun q hq => k3 q (drp_sub q hq)
      · have k1 : (if a = p then none else F2 a) = some o := k1
        split at k1
        · cases k1
        · rename_i hap
          rcases s2.newF a o k1 with z | z | ⟨q, hq, z⟩
          · rw [upd_ne hap] at z; exact .inl z
          · exact .inr (.inl z)
          · exact .inr (.inr ⟨q, drp_sub q hq, z⟩)
      · rcases List.mem_cons.mp hq with rfl | hq
        · exact .inl ⟨_, look_mem e1, rfl⟩
        · rcases s2.newM q hq with ⟨q2, hq2, z⟩ | z | ⟨o, z⟩
          · exact .inl ⟨q2, drp_sub q2 hq2, z⟩
          · exact .inr (.inl z)
          · by_cases hqp : q.1 = p
            · exact .inl ⟨_, look_mem e1, hqp.symm⟩
            · rw [upd_ne hqp] at z; exact .inr (.inr ⟨o, z⟩)
    · exact h1.elim
  · exact h1.elim
theorem pd_loan {X : Cx} {e : Expr} {de : DE} {i : Nat} (h : PD X e de) : PD X e (dLoan i de) := peImp h lift_loan
theorem w_loan {i : Nat} {de : DE} {ds ds' : DS} {ms ms' : MS} {P : D → MS → Prop} {p : Addr} {xs : List D} (e : slot ds i = some (.opq (.ref p))) (e1 : look ms p = some xs) (e2 : setSlot ds i (.lst xs) = ds') (e3 : drp ms p = ms') (h : ExG de ds' ms' fun d m => flat d = true ∧ flatM m ∧ P d ((p, xs) :: m)) : dLoan i de ds ms P := by
  unfold dLoan; simp only [e, e1, e2, e3]; exact h
/-! stepping: x[k] = v -/
def mSetIx (E : EN) (ds : DS) (v o i : D) (m3 : MS) : Prop := match o, i with
  | .opq (.ref p), .int k => (match look m3 p with
    | some xs => (match ixN xs.length k with
      | some j => E.nx ds (put m3 p (xs.set j v))
      | none => False)
    | none => False)
  | _, _ => False
theorem w_setIx {do_ di dv : DE} {E : EN} {ds : DS} {ms : MS} (h : ExG dv ds ms fun v m1 => ExG do_ ds m1 fun o m2 => ExG di ds m2 fun i m3 => mSetIx E ds v o i m3) : dSetIx do_ di dv E ds ms := h
theorem w_mSetIx {E : EN} {ds : DS} {v : D} {p : Addr} {k : Int} {m m' : MS} {xs : List D} {j : Nat} (e : look m p = some xs) (e2 : ixN xs.length k = some j) (e3 : put m p (xs.set j v) = m') (h : NxG E ds m') : mSetIx E ds v (.opq (.ref p)) (.int k) m := by
  unfold mSetIx; simp only [e, e2, e3]; exact h
end DL

namespace DL
open PySem PySem.Spec PyProof.Rows L2

/-! ### exceptions that are made, and kept as data -/
def tMk (t : L2.St → Hp → XK → Prop) : TE := fun σ H Q => t σ H fun cls d H' => ∀ a, H' a = none → Q (.ref a) (upd H' a (ExH cls d a))
theorem pe_mk {X : Cx} {e : Expr} {t : L2.St → Hp → XK → Prop} (he : PMk X e t) (hex : X.ex = []) : PE X e (tMk t) := by
  refine ⟨fun pins s σ H Q I h => wpAny_mono (he pins s σ H _ I h) (fun u s1 hu => ?_) fun _ _ x => x⟩
  obtain ⟨a, oe, vs, sI, H', cls, d, rfl, J, k, hne, ha, hz, hd, h1, na, os, ag, r, q⟩ := hu
  have J1 := J.kept (h' := s1.heap) (t' := s1.toks) k
  have J2 : Inv X pins σ H' s1 := ⟨J1.ok, os.trans J1.os, ag, J1.base, J1.loc, J1.cell, J1.free, J1.freeC, J1.pin, J1.hok, J1.len⟩
  exact ⟨.ref a, _, track J2 J hex hne na ha hz hd, rfl, q a na⟩
/-- C(..), an own class without an __init__ -/
def dMk0 (c : Str) (aa : DA) : DE := fun ds ms P => aa ds ms fun xs m => xs.length ≤ sizeLine ∧ P (.exc c [] []) m
/-- C(..), an own class that keeps its arguments -/
def dMkI (c : Str) (fs : List Str) (aa : DA) : DE := fun ds ms P => aa ds ms fun xs m => xs.length = fs.length ∧ P (.exc c fs xs) m
section
variable {X : Cx} {C fI cc cda : Addr} {B newId initId : String} {bmB : List Value} {x : Str} {fs : List Str} {fd : FuncData} {e : Expr} {es : List Expr} {aa : DA} {p pos : Pos} {k : Nat}
theorem pd_mkI (FB : XB newId initId bmB) (SF : StoreFacts B bmB "object.__setattr__" "object") (KF : PySem.W.KxsFacts B initId) (ex : ExI X.prog X.K x C fI cc cda B newId initId bmB fs) (inf : InitF X.K fI cc cda fs fd) (hr : RoomG k X.A) (hg : Gl X x) (hm : X.mg x = some (.ref C)) (ha : PDA X (e :: es) aa) (hex : X.ex = [] := by rfl)
    (hdb : (x == ("__debug__" : Str)) = false := by decide) (he : starEach (e :: es) X.env = (false, eval e X.env) :: starEach es X.env := by rfl) (hpl : (backTo pos (starEach es X.env)).any (·.1) = false := by rfl) :
    PD X (.Call (.Name x p) (e :: es) [] pos) (dMkI x fs aa) :=
  peImp (pe_mk (pmk_I FB SF KF ex inf hr.r hg hm ha hdb he hpl) hex) fun σ H Q ⟨F0, ds, ms, P, R, S, h, z⟩ =>
    ⟨F0, ds, ms, _, R, S, h, fun xs m vs F1 H1 p1 R1 s1 rs => ⟨rs.length.trans p1.1, fun d hd a na => by
      have R2 := R1.new (o := .xd (fs.zip vs)) hd
      have s2 := s1.trans (Stp.new (o := .xd (fs.zip vs)) R1 hd)
      have R3 := R2.new (o := ExH (.ref C) (some d) a) na
      have s3 := s2.trans (Stp.new (o := ExH (.ref C) (some d) a) R2 na)
      have sb1 : Sub F1 (upd F1 d (.xd (fs.zip vs))) := Sub.new (R1.sub.none hd)
      have sb2 : Sub (upd F1 d (.xd (fs.zip vs))) (upd (upd F1 d (.xd (fs.zip vs))) a (ExH (.ref C) (some d) a)) := Sub.new (R2.sub.none na)
      exact z _ m _ _ _ p1.2 R3 s3 (.exc ex.ns upd_same (.inr ⟨d, rfl, sb2 _ _ upd_same, by rw [rs.length]; exact p1.1.symm, inf.dist.2.2.1⟩) ((rs.mono sb1).mono sb2))⟩⟩
theorem pd_mk0 (FB : ExcBaseFacts B newId initId bmB) (E : ExF X.K x C bmB newId) (gC : X.mg x = some (.ref C)) (hg : Gl X x) (ha : PDA X (e :: es) aa) (hex : X.ex = [] := by rfl)
    (hdb : (x == ("__debug__" : Str)) = false := by decide) (he : starEach (e :: es) X.env = (false, eval e X.env) :: starEach es X.env := by rfl) (hpl : (backTo pos (starEach es X.env)).any (·.1) = false := by rfl) :
    PD X (.Call (.Name x p) (e :: es) [] pos) (dMk0 x aa) :=
  peImp (pe_mk (pmk_ownA FB E.ex gC E.kp (raises_own E.sb E.ty) hg ha hdb he hpl) hex) fun σ H Q ⟨F0, ds, ms, P, R, S, h, z⟩ =>
    ⟨F0, ds, ms, _, R, S, h, fun xs m vs F1 H1 p1 R1 s1 rs => ⟨by rw [rs.length]; exact p1.1, fun a na =>
      z _ m _ _ _ p1.2 (R1.new na) (s1.trans (Stp.new R1 na)) (.exc E.ns upd_same (.inl ⟨rfl, rfl, rfl⟩) .nil)⟩⟩
end
/-! xs.count(v), of data -/
structure CntOk (a : List D) (d : D) (n : Nat) : Prop where
  ex : ∃ ps q, toPys a = some ps ∧ toPy d = some q ∧ PyData.plainAll ps = true ∧ q.plain = true ∧ q.depth ≤ 60 ∧ n = ps.countP fun y => PyData.eqv y q
def dCount (dx : DE) (aa : DA) : DE := fun ds ms P => dx ds ms fun x m1 => match x with
  | .lst a => aa ds m1 fun ys m2 => (match ys with
    | [y] => ∃ n, CntOk a y n ∧ P (.int n) m2
    | _ => False)
  | _ => False
def rCnt (K : PySem.W.Frag) : V → List V → Hp → VK → Prop := fun x xs H Q => ∃ F a y d n v, xs = [v] ∧ Sub F H ∧ DR K F x (.lst a) ∧ DR K F v y ∧ d = y ∧ CntOk a d n ∧ Q (.int n) H
theorem mt_cnt {X : Cx} (hu : X.A.units + 64 < cLine) : MtR X "list.count" (rCnt X.K) := by
  intro pins s σ H x xs v us Q I rx rv h
  obtain ⟨F, a, y, d, n, w, rfl, sb, h1, h2, rfl, ⟨ps, q, e1, e2, c1, c2, c3, rfl⟩, hq⟩ := h
  obtain ⟨u, rfl, ru⟩ := rv.one
  obtain ⟨as, r1⟩ := DR.reads I sb (.lst a) (.list ps) x v h1 (by unfold toPy; rw [e1]; rfl) rx
  obtain ⟨bs, r2⟩ := DR.reads I sb d q w u h2 e2 ru
  cases r1 with
  | list k1 k2 k3 k4 =>
    refine SeqAt.count_list_data ⟨_, k1, k2, _, k3⟩ k4 r2 c1 c2 (by have := Nat.min_le_right (PyData.depthAll ps) q.depth; omega) ?_
    exact ⟨.int _, H, I.tok _, ⟨_, rfl⟩, hq⟩
section
variable {X : Cx} {o e : Expr} {dx : DE} {aa : DA} {apos cpos : Pos}
theorem pd_count (hu : X.A.units + 64 < cLine) (ho : PD X o dx) (ha : PDA X [e] aa)
    (hbase : attributeBase o "count" X.env (eval o X.env) = eval o X.env := by rfl)
    (hfew : ((backTo cpos (starEach [e] X.env)).all (fun x => !x.1) && (backToKw cpos (keywordEach [] X.env)).all (fun x => x.1.isSome) && decide ([e].length + ([] : List Keyword).length + (if ([] : List Keyword).isEmpty then 0 else 1) < 30)) = true := by rfl)
    (hline : (apos.endLine == cpos.line) = true := by rfl) (hs : starEach [e] X.env = (false, eval e X.env) :: starEach [] X.env := by rfl) (hplain : (backTo cpos (starEach [] X.env)).any (·.1) = false := by rfl) :
    PD X (.Call (.Attribute o "count" apos) [e] [] cpos) (dCount dx aa) :=
  peImp (pe_bm PySem.F.plainAttrs_list PySem.F.slot_list_count PySem.F.type_list_count (mt_cnt hu) ho ha hbase hfew hline hs hplain) fun σ H Q ⟨F, ds, ms, P, R, S, h1, h2⟩ =>
    ⟨F, ds, ms, _, R, S, h1, fun x m1 v F1 H1 p1 R1 s1 r1 => by
      match x, p1, r1 with
      | .lst a, h, .lst (a := l) (xs := vs) hl hs =>
        refine ⟨.inl ⟨rfl, vs, SqL.of (R1.sub _ _ hl)⟩, F1, ds, m1, _, R1, S.mono s1.sub, h, fun ys m2 ws F2 H2 p2 R2 s2 r2 => ?_⟩
        match ys, r2, p2 with
        | [y], .cons ry .nil, ⟨n, c, p3⟩ =>
          exact ⟨F2, a, y, y, n, _, rfl, R2.sub, .lst (s2.sub _ _ hl) (hs.mono s2.sub), ry, rfl, c, h2 _ m2 _ F2 H2 p3 R2 (s1.trans s2) (.int _)⟩⟩
end
/-! isinstance, all classes at once -/
def kitAll (K : PySem.W.Frag) (cw : Value) (l : List (Addr × Bool)) : Bool := l.all fun p => decide (PySem.W.kitOne K (.ref p.1) cw = some p.2)
section
variable {K : PySem.W.Frag} {cw : Value} {c : Str} {C : Addr} {b : Bool} {l : List (Addr × Bool)} {ml : List (Str × Bool)}
theorem mlK_n : kitAll K cw [] = true → MlK K cw [] := fun _ => mlK_nil
theorem mlK_c (E1 : ExB K c C) (r : kitAll K cw l = true → MlK K cw ml) : kitAll K cw ((C, b) :: l) = true → MlK K cw ((c, b) :: ml) := fun h => by
  obtain ⟨h1, h2⟩ := Bool.and_eq_true_iff.mp h
  exact mlK_b E1 (of_decide_eq_true h1) (r h2)
end
/-! stepping -/
section
variable {ds : DS} {ms m : MS} {P : D → MS → Prop} {aa : DA} {dx : DE} {c : Str} {fs : List Str} {xs ys : List D} {A : Prop} {α β : Type} {u : List α} {v : List β}
theorem w_mk0 (h : ArG aa ds ms fun xs m => xs.length ≤ sizeLine ∧ P (.exc c [] []) m) : dMk0 c aa ds ms P := h
theorem w_mkI (h : ArG aa ds ms fun xs m => xs.length = fs.length ∧ P (.exc c fs xs) m) : dMkI c fs aa ds ms P := h
theorem w_lenq (e : u.length = v.length) (h : A) : u.length = v.length ∧ A := ⟨e, h⟩
def mCnt (aa : DA) (ds : DS) (x : D) (m : MS) (P : D → MS → Prop) : Prop := match x with
  | .lst a => aa ds m fun ys m2 => (match ys with
    | [y] => ∃ n, CntOk a y n ∧ P (.int n) m2
    | _ => False)
  | _ => False
def mCnt2 (a ys : List D) (m : MS) (P : D → MS → Prop) : Prop := match ys with
  | [y] => ∃ n, CntOk a y n ∧ P (.int n) m
  | _ => False
theorem w_count (h : ExG dx ds ms fun x m => mCnt aa ds x m P) : dCount dx aa ds ms P := h
theorem w_mCnt (h : ArG aa ds m fun ys m2 => mCnt2 xs ys m2 P) : mCnt aa ds (.lst xs) m P := h
theorem w_mCnt2 {y : D} {n : Nat} (e : CntOk xs y n) (h : P (.int n) m) : mCnt2 xs [y] m P := ⟨n, e, h⟩
end
end DL

namespace DL
open PySem PySem.Spec PyProof.Rows L2

/-! ### methods of texts -/
abbrev MF := Str → List D → MS → (D → MS → Prop) → Prop
def dM0 (f : MF) (dx : DE) : DE := fun ds ms P => dx ds ms fun x m1 => match x with
  | .str a => f a [] m1 P
  | _ => False
def dM1 (f : MF) (dx dy : DE) : DE := fun ds ms P => dx ds ms fun x m1 => match x with
  | .str a => dy ds m1 fun y m2 => f a [y] m2 P
  | _ => False
def MtD (K : PySem.W.Frag) (r : V → List V → Hp → VK → Prop) (f : MF) : Prop := ∀ (F H : Hp) (ms : MS) (a : Str) (xs : List V) (ys : List D) (P : D → MS → Prop) (Q : VK), Rel K F H ms → DRs K F xs ys → f a ys ms P →
  (∀ d ms' v F' H', P d ms' → Rel K F' H' ms' → Stp F H ms F' H' ms' → DR K F' v d → Q v H') → r (.str a) xs H Q
section
variable {X : Cx} {o e : Expr} {dx dy : DE} {f : MF} {r : V → List V → Hp → VK → Prop} {id : String} {name : Str} {apos pos : Pos}
theorem pd_m0 (slot : Slot "str" name id) (ty : typeOf (.builtin id) = pure (.type "method_descriptor")) (rule : MtR X id r) (hf : MtD X.K r f) (ho : PD X o dx)
    (hbase : attributeBase o name X.env (eval o X.env) = eval o X.env := by rfl) (hline : (apos.endLine == pos.line) = true := by rfl) : PD X (.Call (.Attribute o name apos) [] [] pos) (dM0 f dx) :=
  peImp (pe_m0 slot ty rule ho hbase hline) fun σ H Q ⟨F, ds, ms, P, R, S, h1, h2⟩ => ⟨F, ds, ms, _, R, S, h1, fun x m1 v F1 H1 p1 R1 s1 r1 => by
    match x, p1, r1 with
    | .str a, p1, .str _ => exact ⟨⟨a, rfl⟩, hf F1 H1 m1 a [] [] P Q R1 .nil p1 fun d m2 v F2 H2 p2 R2 s2 r2 => h2 d m2 v F2 H2 p2 R2 (s1.trans s2) r2⟩⟩
theorem pd_m1 (slot : Slot "str" name id) (ty : typeOf (.builtin id) = pure (.type "method_descriptor")) (rule : MtR X id r) (hf : MtD X.K r f) (ho : PD X o dx) (he : PD X e dy)
    (hs : starEach [e] X.env = [(false, eval e X.env)] := by rfl) (hbase : attributeBase o name X.env (eval o X.env) = eval o X.env := by rfl) (hline : (apos.endLine == pos.line) = true := by rfl) :
    PD X (.Call (.Attribute o name apos) [e] [] pos) (dM1 f dx dy) :=
  peImp (pe_m1 slot ty rule ho he hs hbase hline) fun σ H Q ⟨F, ds, ms, P, R, S, h1, h2⟩ => ⟨F, ds, ms, _, R, S, h1, fun x m1 v F1 H1 p1 R1 s1 r1 => by
    match x, p1, r1 with
    | .str a, p1, .str _ => exact ⟨⟨a, rfl⟩, F1, ds, m1, _, R1, S.mono s1.sub, p1, fun y m2 w F2 H2 p2 R2 s2 r2 => hf F2 H2 m2 a [w] [y] P Q R2 (.cons r2 .nil) p2 fun d m3 v F3 H3 p3 R3 s3 r3 => h2 d m3 v F3 H3 p3 R3 ((s1.trans s2).trans s3) r3⟩⟩
end
def mPart : MF := fun a ys ms P => match ys with
  | [.str b] => (b.length == 0) = false ∧ a.length ≤ sizeLine ∧ P (.tup [.str (Txt.partition a b).1, .str (Txt.partition a b).2.1, .str (Txt.partition a b).2.2]) ms
  | _ => False
def mStarts : MF := fun a ys ms P => match ys with
  | [.str b] => P (.bl (Txt.startswith a b)) ms
  | _ => False
def mEnds : MF := fun a ys ms P => match ys with
  | [.str b] => P (.bl (Txt.endswith a b)) ms
  | _ => False
def mSplit : MF := fun a ys ms P => match ys with
  | [.str b] => (b.length == 0) = false ∧ a.length + 2 ≤ sizeLine ∧ P (.lst ((Txt.split a b).map D.str)) ms
  | _ => False
def mZfill : MF := fun a ys ms P => match ys with
  | [.int i] => PadOk i = true ∧ P (.str (Txt.zfill a i)) ms
  | _ => False
def mRemSuf : MF := fun a ys ms P => match ys with
  | [.str b] => a.length ≤ sizeLine ∧ P (.str (Txt.removesuffix a b)) ms
  | _ => False
def mJoin : MF := fun a ys ms P => match ys with
  | [d] => ∃ zs : List Str, asT d ms = some (zs.map D.str) ∧ (zs.map (·.length)).sum + zs.length * a.length ≤ 16777216 ∧ P (.str (Txt.join a zs)) ms
  | _ => False
theorem DRs.strs {K : PySem.W.Frag} {F : Hp} : ∀ {vs : List V} {zs : List Str}, DRs K F vs (zs.map D.str) → vs = zs.map V.str
  | _, [], .nil => rfl
  | _, z :: zs, .cons h t => by cases h; rw [DRs.strs t]; rfl
theorem DRs.ofStrs {K : PySem.W.Frag} {F : Hp} : ∀ zs : List Str, DRs K F (zs.map V.str) (zs.map D.str)
  | [] => .nil
  | z :: zs => .cons (.str z) (DRs.ofStrs zs)
section
variable {K : PySem.W.Frag}
theorem mtd_part : MtD K (fun x xs H Q => ∃ a b, x = .str a ∧ xs = [.str b] ∧ (b.length == 0) = false ∧ a.length ≤ sizeLine ∧
    ∀ p, H p = none → Q (.ref p) (upd H p (.tup [.str (Txt.partition a b).1, .str (Txt.partition a b).2.1, .str (Txt.partition a b).2.2]))) mPart := fun F H ms a xs ys P Q R r h q => by
  match ys, r, h with
  | [.str b], .cons (.str _) .nil, ⟨h1, h2, h3⟩ => exact ⟨a, b, rfl, rfl, h1, h2, fun p hp => q _ ms _ _ _ h3 (R.new hp) (Stp.new R hp) (R.newTup hp (.cons (.str _) (.cons (.str _) (.cons (.str _) .nil))))⟩
theorem mtd_starts : MtD K (fun x xs H Q => ∃ a b, x = .str a ∧ xs = [.str b] ∧ Q (.bl (Txt.startswith a b)) H) mStarts := fun F H ms a xs ys P Q R r h q => by
  match ys, r, h with
  | [.str b], .cons (.str _) .nil, h => exact ⟨a, b, rfl, rfl, q _ ms _ F H h R Stp.refl (.bl _)⟩
theorem mtd_ends : MtD K (fun x xs H Q => ∃ a b, x = .str a ∧ xs = [.str b] ∧ Q (.bl (Txt.endswith a b)) H) mEnds := fun F H ms a xs ys P Q R r h q => by
  match ys, r, h with
  | [.str b], .cons (.str _) .nil, h => exact ⟨a, b, rfl, rfl, q _ ms _ F H h R Stp.refl (.bl _)⟩
theorem mtd_split : MtD K (fun x xs H Q => ∃ a b, x = .str a ∧ xs = [.str b] ∧ (b.length == 0) = false ∧ a.length + 2 ≤ sizeLine ∧ rNewStrs (Txt.split a b) H Q) mSplit := fun F H ms a xs ys P Q R r h q => by
  match ys, r, h with
  | [.str b], .cons (.str _) .nil, ⟨h1, h2, h3⟩ => exact ⟨a, b, rfl, rfl, h1, h2, fun p hp => q _ ms _ _ _ h3 (R.new hp) (Stp.new R hp) (R.newLst hp (DRs.ofStrs _))⟩
theorem mtd_zfill : MtD K (fun x xs H Q => ∃ (a : Str) (i : Int), x = .str a ∧ xs = [.int i] ∧ PadOk i = true ∧ Q (.str (Txt.zfill a i)) H) mZfill := fun F H ms a xs ys P Q R r h q => by
  match ys, r, h with
  | [.int i], .cons (.int _) .nil, ⟨h1, h2⟩ => exact ⟨a, i, rfl, rfl, h1, q _ ms _ F H h2 R Stp.refl (.str _)⟩
theorem mtd_remSuf : MtD K (fun x xs H Q => ∃ a b, x = .str a ∧ xs = [.str b] ∧ a.length ≤ sizeLine ∧ Q (.str (Txt.removesuffix a b)) H) mRemSuf := fun F H ms a xs ys P Q R r h q => by
  match ys, r, h with
  | [.str b], .cons (.str _) .nil, ⟨h1, h2⟩ => exact ⟨a, b, rfl, rfl, h1, q _ ms _ F H h2 R Stp.refl (.str _)⟩
theorem mtd_join : MtD K (fun x xs H Q => ∃ a p, ∃ ys : List Str, x = .str a ∧ xs = [.ref p] ∧ (SqL K H p (ys.map V.str) ∨ SqT K H p (ys.map V.str)) ∧
    (ys.map (·.length)).sum + ys.length * a.length ≤ 16777216 ∧ Q (.str (Txt.join a ys)) H) mJoin := fun F H ms a xs ys P Q R r h q => by
  match ys, r, h with
  | [d], .cons rd .nil, ⟨zs, e, hz, h⟩ =>
    obtain ⟨p, vs, rfl, h3, h4⟩ := R.asT rd e
    rw [h4.strs] at h3
    exact ⟨a, p, zs, rfl, rfl, h3.symm, hz, q _ ms _ F H h R Stp.refl (.str _)⟩
end

/-! ### sep.join(reversed(a list of texts)) -/
theorem join_rev {prog : Program} {w : World} {A : Around} {E : Value → Shared → Prop} {s : Shared} {x : Str} {t : Tok} {ys : List Str} {it l : Addr} {items : Array Value} {Q : Value → Shared → Prop} (hh : A.handled = none)
    (hit : s.heap.IsRevIter it l ((items.size : Int) - 1)) (hl : s.heap.IsList l items) (hne : l ≠ it) (hn : items.size ≤ sizeLine) (hP : ∀ acc : Array Value, ItemsOf (fun i v => items[items.size - 1 - i]? = some v) acc items.size → StrsAre acc.toList ys)
    (hok : (ys.map (·.length)).sum + ys.length * x.length ≤ 16777216) (hq : ∀ (h' : Heap) (t' : Tok) (k : Nat), (∀ b o, b ≠ it → s.heap.get? b = some o → h'.get? b = some o) → Q (.str (Txt.join x ys) t') { s with heap := h', toks := k }) :
    wpAny (model prog w) A (call (.builtin "str.join") [.str x t, .ref it]) Q E s := by
  refine wpAny_call (codeAny_call_builtin F.slot_str_join.plain F.entry_str_join (F.slot_str_join.check _ _ _ _ _ _ _ _ (typeIs_str _ _ _) (F.args_str_join_2 _ _) ?_))
  rw [join_tree_other]
  refine wpAny_bind (wpAny_typeOf hit.typeIs ?_)
  show wpAny _ A.in1 ((pyIter (.ref it)).tryCatch _ >>= fun it => collect it >>= fun items => joinTail x items) _ _ s
  refine wpAny_bind (wpAny_tryCatch (wpAny_pyIter_revIter hit ?_))
  refine wpAny_bind (RT.collect_rev (A := A.in1) hh hit hl hne hn fun h' tk acc hk hacc => ?_)
  obtain ⟨lv, hlv, ht⟩ := strsAre_values (hP acc hacc)
  subst ht
  rw [hlv]
  have hok' := joinOk_of hok
  unfold JoinOk at hok'
  rw [Bool.not_eq_true'] at hok'
  have g : Gives (joinTail x (strValues lv)) (joinMade x lv) := by
    have g0 := gives_joinTail x lv hok'
    cases lv with
    | nil => exact g0
    | cons p r => cases r with
      | nil => exact g0
      | cons q r' => exact g0
  exact g prog w A (wants Q E) _ (post_join lv ⟨joinFit_length hok', fun t' k => hq h' t' k hk⟩)
def tJoinRev (K : PySem.W.Frag) (to te : TE) : TE := fun σ H Q => to σ H fun x H1 => (∃ a, x = .str a) ∧ te σ H1 fun v H2 => ∃ (a : Str) (p : Addr) (ys : List Str), x = .str a ∧ v = .ref p ∧ SqL K H2 p (ys.map V.str) ∧
  (ys.reverse.map (·.length)).sum + ys.reverse.length * a.length ≤ 16777216 ∧ Q (.str (Txt.join a ys.reverse)) H2
theorem pe_joinRev {X : Cx} {o e : Expr} {to te : TE} {apos pos p pos2 : Pos} (hc : X.calm = true) (ho : PE X o to) (hg : Gl X "reversed") (hm : X.mg "reversed" = none) (he : PE X e te)
    (hs1 : starEach [.Call (.Name "reversed" p) [e] [] pos2] X.env = [(false, eval (.Call (.Name "reversed" p) [e] [] pos2) X.env)] := by rfl)
    (hs : starEach [e] X.env = (false, eval e X.env) :: starEach [] X.env := by rfl)
    (hbase : attributeBase o "join" X.env (eval o X.env) = eval o X.env := by rfl) (hline : (apos.endLine == pos.line) = true := by rfl) :
    PE X (.Call (.Attribute o "join" apos) [.Call (.Name "reversed" p) [e] [] pos2] [] pos) (tJoinRev X.K to te) := by
  refine ⟨fun pins s σ H Q I h => ?_⟩
  refine PySem.Call_method1 hbase hs1 hline (thn (ho.run pins s σ H _ I h) fun v s1 ⟨x, H1, I1, r1, q1⟩ => ?_)
  obtain ⟨⟨a, rfl⟩, q1⟩ := q1
  obtain ⟨t, rfl⟩ := _root_.id r1
  refine ⟨"str", _, F.plainAttrs_str, F.slot_str_join, F.type_str_join, typeIs_str _ _ _, (fun _ e => nomatch e), Calls.callWith_builtin rfl (Calls.evalArgs_plain (Calls.spliced_cons ?_))⟩
  refine Call_ (ld_blt I1 hg hm PyProof.Rows.boot_reversed (PyProof.Rows.callWith_type1 (args_cons (thn (he.run pins s1 σ H1 _ I1 q1) fun u s2 ⟨w, H2, I2, r2, q2⟩ => args_nil ?_) hs) hs rfl))
  obtain ⟨a', l, ys, ea, ew, hq, hz, q⟩ := q2
  cases ea
  subst ew
  obtain rfl : u = Value.ref l := r2
  obtain ⟨its, rv, p', hsz⟩ := I2.list hq
  refine call_reversed_list p'.isList (Calls.spliced_nil ?_)
  have k0 : ∀ b o, s2.heap.get? b = some o → (s2.heap.push (revObj l ((its.toArray.size : Int) - 1))).get? b = some o := fun b o e => Heap.get?_push_of_some _ e
  have I3 : Inv X pins σ H2 { s2 with heap := s2.heap.push (revObj l ((its.toArray.size : Int) - 1)) } := I2.kept (t' := s2.toks) k0
  obtain ⟨f0, f1, f2, f3, f4, f5⟩ := I2.fpOk (H' := H2) (b := s2.heap.objs.size) (Nat.le_refl _) (I2.hok.fresh (Nat.le_refl _))
  have hl := p'.isList
  obtain ⟨ol, hol, _⟩ := _root_.id hl
  have hne : l ≠ s2.heap.objs.size := Nat.ne_of_lt (Heap.lt_size hol)
  have hn : its.toArray.size ≤ sizeLine := by rw [List.size_toArray, ← rv.length]; exact hsz
  refine join_rev (s := { s2 with heap := s2.heap.push (revObj l ((its.toArray.size : Int) - 1)) }) (I2.ok.hd hc) ⟨_, Heap.get?_push_size _ rfl, rfl, rfl⟩ (hl.push _) hne hn (fun acc hacc => strs_of_vals (by rw [List.map_reverse]; exact RT.vals_rev rv hacc)) hz fun h' t' k hk => ?_
  exact ⟨.str _, H2, I3.turned (t' := k) (fun b o hb e => hk b o hb e) f0 f1 f3 f4 f5, ⟨t', rfl⟩, q⟩
def dJoinRev (dx dy : DE) : DE := fun ds ms P => dx ds ms fun x m1 => match x with
  | .str a => dy ds m1 fun y m2 => ∃ zs : List Str, asL y m2 = some (zs.map D.str) ∧ (zs.reverse.map (·.length)).sum + zs.reverse.length * a.length ≤ 16777216 ∧ P (.str (Txt.join a zs.reverse)) m2
  | _ => False
theorem pd_joinRev {X : Cx} {o e : Expr} {dx dy : DE} {apos pos p pos2 : Pos} (hc : X.calm = true) (ho : PD X o dx) (hg : Gl X "reversed") (hm : X.mg "reversed" = none) (he : PD X e dy)
    (hs1 : starEach [.Call (.Name "reversed" p) [e] [] pos2] X.env = [(false, eval (.Call (.Name "reversed" p) [e] [] pos2) X.env)] := by rfl)
    (hs : starEach [e] X.env = (false, eval e X.env) :: starEach [] X.env := by rfl)
    (hbase : attributeBase o "join" X.env (eval o X.env) = eval o X.env := by rfl) (hline : (apos.endLine == pos.line) = true := by rfl) :
    PD X (.Call (.Attribute o "join" apos) [.Call (.Name "reversed" p) [e] [] pos2] [] pos) (dJoinRev dx dy) :=
  peImp (pe_joinRev hc ho hg hm he hs1 hs hbase hline) fun σ H Q ⟨F, ds, ms, P, R, S, h1, h2⟩ => ⟨F, ds, ms, _, R, S, h1, fun x m1 v F1 H1 p1 R1 s1 r1 => by
    match x, p1, r1 with
    | .str a, p1, .str _ =>
      refine ⟨⟨a, rfl⟩, F1, ds, m1, _, R1, S.mono s1.sub, p1, fun y m2 w F2 H2 p2 R2 s2 r2 => ?_⟩
      obtain ⟨zs, e1, hz, h3⟩ := p2
      obtain ⟨l, vs, rfl, h4, h5⟩ := R2.asL r2 e1
      rw [h5.strs] at h4
      exact ⟨a, l, zs, rfl, rfl, h4, hz, h2 _ m2 _ F2 H2 h3 R2 (s1.trans s2) (.str _)⟩⟩

/-! ### divmod, int(text) -/
def cDivmod : CF := fun xs ms P => match xs with
  | [.int i, .int j] => CDivP i j ∧ P (.tup [.int (i / j), .int (i % j)]) ms
  | _ => False
theorem cal_divmod {K : PySem.W.Frag} : CalD K (fun xs H Q => ∃ i j, xs = [.int i, .int j] ∧ CDivP i j ∧ ∀ p, H p = none → Q (.ref p) (upd H p (.tup [.int (i / j), .int (i % j)]))) cDivmod := fun F H ms vs xs P Q R r h q => by
  match xs, r, h with
  | [.int i, .int j], .cons (.int _) (.cons (.int _) .nil), ⟨h1, h2⟩ => exact ⟨i, j, rfl, h1, fun p hp => q _ ms _ _ _ h2 (R.new hp) (Stp.new R hp) (R.newTup hp (.cons (.int _) (.cons (.int _) .nil)))⟩
def cIntS : CF := fun xs ms P => match xs with
  | [.str a] => ∃ n, PySem.intText? a = some n ∧ a.length ≤ 640 ∧ P (.int n) ms
  | _ => False
theorem cal_intS {K : PySem.W.Frag} : CalD K (fun xs H Q => ∃ a n, xs = [.str a] ∧ PySem.intText? a = some n ∧ a.length ≤ 640 ∧ Q (.int n) H) cIntS := fun F H ms vs xs P Q R r h q => by
  match xs, r, h with
  | [.str a], .cons (.str _) .nil, ⟨n, h1, h2, h3⟩ => exact ⟨a, n, rfl, h1, h2, q _ ms _ F H h3 R Stp.refl (.int _)⟩

/-! ### one sign in a text -/
def fInS (neg : Bool) : OF := fun x y ms P => match x, y with
  | .str a, .str z => ∃ c : Nat, a = ⟨#[c]⟩ ∧ P (.bl (Bool.xor neg (decide (c ∈ z.cps.toList)))) ms
  | _, _ => False
def fInSign : OF := fInS false
def fNotInSign : OF := fInS true
theorem opd_inSign {K : PySem.W.Frag} : OpD K (fun x y H Q => ∃ (c : Nat) (z : Str), x = .str ⟨#[c]⟩ ∧ y = .str z ∧ Q (.bl (decide (c ∈ z.cps.toList))) H) fInSign := fun F H ms x y dx dy P Q R rx ry h q => by
  match dx, dy, h, rx, ry with
  | .str a, .str z, ⟨c, e, h⟩, .str _, .str _ => subst e; exact ⟨c, z, rfl, rfl, by simpa using q _ ms _ F H h R Stp.refl (.bl _)⟩
theorem opd_notInSign {K : PySem.W.Frag} : OpD K (fun x y H Q => ∃ (c : Nat) (z : Str), x = .str ⟨#[c]⟩ ∧ y = .str z ∧ Q (.bl (!decide (c ∈ z.cps.toList))) H) fNotInSign := fun F H ms x y dx dy P Q R rx ry h q => by
  match dx, dy, h, rx, ry with
  | .str a, .str z, ⟨c, e, h⟩, .str _, .str _ => subst e; exact ⟨c, z, rfl, rfl, by simpa using q _ ms _ F H h R Stp.refl (.bl _)⟩

/-! ### f-strings -/
def dFmt (de : DE) : DE := fun ds ms P => de ds ms fun x m => match x with
  | .str y => y.length ≤ sizeLine ∧ P (.str y) m
  | .int i => i.natAbs.log2 < 1920 ∧ P (.str (toString i)) m
  | _ => False
theorem pd_fmt {X : Cx} {e : Expr} {de : DE} {pos : Pos} (he : PD X e de) : PD X (.FormattedValue e (-1) none pos) (dFmt de) :=
  peImp (pe_fmt he) fun σ H Q ⟨F, ds, ms, P, R, S, h1, h2⟩ => ⟨F, ds, ms, _, R, S, h1, fun x m1 v F1 H1 p1 R1 s1 r1 => by
    match x, p1, r1 with
    | .str a, p1, .str _ => exact .inl ⟨a, rfl, p1.1, h2 _ m1 _ F1 H1 p1.2 R1 s1 (.str _)⟩
    | .int i, p1, .int _ => exact .inr ⟨i, rfl, p1.1, h2 _ m1 _ F1 H1 p1.2 R1 s1 (.str _)⟩⟩
inductive PDJ (X : Cx) : List Expr → List DE → Prop where
  | nil : PDJ X [] []
  | cons {e : Expr} {t : DE} {es : List Expr} {ts : List DE} (h : PD X e t) (r : PDJ X es ts) : PDJ X (e :: es) (t :: ts)
theorem PDJ.pj {X : Cx} {es : List Expr} {ts : List DE} (h : PDJ X es ts) : PJ X es (ts.map (lift X.K)) := by
  induction h with
  | nil => exact .nil
  | cons h r ih => exact .cons h ih
def jsD : List DE → Str → DS → MS → (Str → MS → Prop) → Prop
  | [], acc, _, ms, P => P acc ms
  | t :: ts, acc, ds, ms, P => t ds ms fun x m => match x with
    | .str y => (acc ++ y).length ≤ sizeLine ∧ jsD ts (acc ++ y) ds m P
    | _ => False
def dJoined (ts : List DE) : DE := fun ds ms P => jsD ts Str.empty ds ms fun out m => P (.str out) m
theorem lift_js {K : PySem.W.Frag} {σ : L2.St} {Q : Str → Hp → Prop} : ∀ (ts : List DE) (acc : Str) (F H : Hp) (ds : DS) (ms : MS) (P : Str → MS → Prop), Rel K F H ms → Sl K F σ ds → jsD ts acc ds ms P →
    (∀ out m F' H', P out m → Rel K F' H' m → Stp F H ms F' H' m → Q out H') → tJs (ts.map (lift K)) acc σ H Q
  | [], acc, F, H, ds, ms, P, R, S, h, q => q acc ms F H h R Stp.refl
  | t :: ts, acc, F, H, ds, ms, P, R, S, h, q => ⟨F, ds, ms, _, R, S, h, fun x m1 v F1 H1 p1 R1 s1 r1 => by
    match x, p1, r1 with
    | .str a, p1, .str _ => exact ⟨a, rfl, p1.1, lift_js ts (acc ++ a) F1 H1 ds m1 P R1 (S.mono s1.sub) p1.2 fun out m F' H' p R' s' => q out m F' H' p R' (s1.trans s')⟩⟩
theorem pd_joined {X : Cx} {v1 v2 : Expr} {rest : List Expr} {ts : List DE} {pos : Pos} (h : PDJ X (v1 :: v2 :: rest) ts) : PD X (.JoinedStr (v1 :: v2 :: rest) pos) (dJoined ts) :=
  peImp (pe_joined h.pj) fun σ H Q ⟨F, ds, ms, P, R, S, h1, h2⟩ => lift_js ts Str.empty F H ds ms _ R S h1 fun out m F' H' p R' s' => h2 _ m _ F' H' p R' s' (.str _)
/-! stepping -/
section
variable {ds : DS} {ms m : MS} {P : D → MS → Prop} {dx dy de : DE} {f : MF} {a b z : Str} {i j : Int} {zs : List Str} {ts : List DE} {y d : D}
def mM1 (f : MF) (dy : DE) (ds : DS) (x : D) (m : MS) (P : D → MS → Prop) : Prop := match x with
  | .str a => dy ds m fun y m2 => f a [y] m2 P
  | _ => False
def MtG (f : MF) (a : Str) (ys : List D) (m : MS) (P : D → MS → Prop) : Prop := f a ys m P
theorem w_m1 (h : ExG dx ds ms fun x m => mM1 f dy ds x m P) : dM1 f dx dy ds ms P := h
theorem w_mM1 (h : ExG dy ds m fun y m2 => MtG f a [y] m2 P) : mM1 f dy ds (.str a) m P := h
theorem w_part (h : (b.length == 0) = false ∧ a.length ≤ sizeLine ∧ P (.tup [.str (Txt.partition a b).1, .str (Txt.partition a b).2.1, .str (Txt.partition a b).2.2]) ms) : MtG mPart a [.str b] ms P := h
theorem w_starts (h : P (.bl (Txt.startswith a b)) ms) : MtG mStarts a [.str b] ms P := h
theorem w_ends (h : P (.bl (Txt.endswith a b)) ms) : MtG mEnds a [.str b] ms P := h
theorem w_split (h : (b.length == 0) = false ∧ a.length + 2 ≤ sizeLine ∧ P (.lst ((Txt.split a b).map D.str)) ms) : MtG mSplit a [.str b] ms P := h
theorem w_zfill (h : PadOk i = true ∧ P (.str (Txt.zfill a i)) ms) : MtG mZfill a [.int i] ms P := h
theorem w_remSuf (h : a.length ≤ sizeLine ∧ P (.str (Txt.removesuffix a b)) ms) : MtG mRemSuf a [.str b] ms P := h
theorem w_join (e : asT d ms = some (zs.map D.str)) (h : (zs.map (·.length)).sum + zs.length * a.length ≤ 16777216 ∧ P (.str (Txt.join a zs)) ms) : MtG mJoin a [d] ms P := ⟨zs, e, h⟩
def mJr (dy : DE) (ds : DS) (x : D) (m : MS) (P : D → MS → Prop) : Prop := match x with
  | .str a => dy ds m fun y m2 => ∃ zs : List Str, asL y m2 = some (zs.map D.str) ∧ (zs.reverse.map (·.length)).sum + zs.reverse.length * a.length ≤ 16777216 ∧ P (.str (Txt.join a zs.reverse)) m2
  | _ => False
def mJr2 (a : Str) (y : D) (m : MS) (P : D → MS → Prop) : Prop := ∃ zs : List Str, asL y m = some (zs.map D.str) ∧ (zs.reverse.map (·.length)).sum + zs.reverse.length * a.length ≤ 16777216 ∧ P (.str (Txt.join a zs.reverse)) m
theorem w_joinRev (h : ExG dx ds ms fun x m => mJr dy ds x m P) : dJoinRev dx dy ds ms P := h
theorem w_mJr (h : ExG dy ds m fun y m2 => mJr2 a y m2 P) : mJr dy ds (.str a) m P := h
theorem w_divmod (h : CDivP i j ∧ P (.tup [.int (i / j), .int (i % j)]) ms) : cDivmod [.int i, .int j] ms P := h
theorem w_intS {n : Int} (e : PySem.intText? a = some n) (h : a.length ≤ 640 ∧ P (.int n) ms) : cIntS [.str a] ms P := ⟨n, e, h⟩
theorem w_inSign {c : Nat} (h : P (.bl (decide (c ∈ z.cps.toList))) ms) : fInSign (.str ⟨#[c]⟩) (.str z) ms P := ⟨c, rfl, by simpa using h⟩
theorem w_notInSign {c : Nat} (h : P (.bl (!decide (c ∈ z.cps.toList))) ms) : fNotInSign (.str ⟨#[c]⟩) (.str z) ms P := ⟨c, rfl, by simpa using h⟩
def mFmt (x : D) (m : MS) (P : D → MS → Prop) : Prop := match x with
  | .str y => y.length ≤ sizeLine ∧ P (.str y) m
  | .int i => i.natAbs.log2 < 1920 ∧ P (.str (toString i)) m
  | _ => False
theorem w_fmt (h : ExG de ds ms fun x m => mFmt x m P) : dFmt de ds ms P := h
theorem w_mFmtS (h : a.length ≤ sizeLine ∧ P (.str a) m) : mFmt (.str a) m P := h
theorem w_mFmtI (h : i.natAbs.log2 < 1920 ∧ P (.str (toString i)) m) : mFmt (.int i) m P := h
def JsG (ts : List DE) (acc : Str) (ds : DS) (ms : MS) (P : Str → MS → Prop) : Prop := jsD ts acc ds ms P
def mJs (ts : List DE) (acc : Str) (ds : DS) (x : D) (m : MS) (P : Str → MS → Prop) : Prop := match x with
  | .str y => (acc ++ y).length ≤ sizeLine ∧ jsD ts (acc ++ y) ds m P
  | _ => False
theorem w_joined (h : JsG ts Str.empty ds ms fun out m => P (.str out) m) : dJoined ts ds ms P := h
theorem w_jsN {P : Str → MS → Prop} (h : P a ms) : JsG [] a ds ms P := h
theorem w_jsC {P : Str → MS → Prop} (h : ExG de ds ms fun x m => mJs ts a ds x m P) : JsG (de :: ts) a ds ms P := h
theorem w_mJs {P : Str → MS → Prop} (h : (a ++ b).length ≤ sizeLine ∧ JsG ts (a ++ b) ds m P) : mJs ts a ds (.str b) m P := h
end
end DL

namespace DL
open PySem PySem.Spec PyProof.Rows L2

/-! ### max(xs, default=d), whole numbers -/
def maxOf : List Int → Int → Int
  | [], d => d
  | n :: r, _ => r.foldl max n
theorem reads_ints {h : Heap} : ∀ {ns : List Int} {its : List Value}, Vals (ns.map V.int) its → ReadsAll h its (ns.map PyData.int) []
  | [], _, .nil => .nil
  | n :: ns, _, .cons r t => by
    obtain ⟨k, rfl⟩ := r
    exact ReadsAll.cons (as := []) (bs := []) (Reads.int n k) (reads_ints t)
theorem alike_ints (ns : List Int) : PySem.W.AlikeAll (ns.map PyData.int) := by
  refine ⟨fun x hx y hy => ?_, fun x hx => ?_⟩
  · obtain ⟨a, _, rfl⟩ := List.mem_map.mp hx
    obtain ⟨b, _, rfl⟩ := List.mem_map.mp hy
    rfl
  · obtain ⟨a, _, rfl⟩ := List.mem_map.mp hx
    intro z; cases z
theorem depth_ints : ∀ ns : List Int, PyData.depthAll (ns.map PyData.int) = 0
  | [] => rfl
  | n :: r => by
    show max 0 (PyData.depthAll (r.map PyData.int)) = 0
    rw [depth_ints r]; rfl
def rMaxDef (K : PySem.W.Frag) : List V → List V → Hp → VK → Prop := fun xs zs H Q => ∃ (a : Addr) (ns : List Int) (d : Int), xs = [.ref a] ∧ zs = [.int d] ∧ SqL K H a (ns.map V.int) ∧ Q (.int (maxOf ns d)) H
theorem ck_max {X : Cx} (hc : X.calm = true) (hu : X.A.units + 64 < cLine) : CallRK X (.builtin "max") ["default"] (rMaxDef X.K) := by
  intro pins s σ H xs zs us ws Q I r rz h
  obtain ⟨a, ns, d, rfl, rfl, hs, q⟩ := h
  obtain ⟨its, rv, hl, _⟩ := I.list hs
  obtain ⟨u, rfl, t, rfl⟩ := vals1 rz
  rw [Vals.ref1 r]
  refine PySem.W.max_list_default (xs := ns.map PyData.int) (d := .int d t) (I.ok.hd hc) hl.isList (reads_ints rv) (alike_ints ns) (by rw [depth_ints]; omega) (fun e h' tk hk => ?_) fun y ys i v h' tk bs e hv hr hk => ?_
  · cases ns with
    | nil => exact ⟨.int d, H, I.kept hk, ⟨t, rfl⟩, q⟩
    | cons _ _ => cases e
  · cases ns with
    | nil => cases e
    | cons n r =>
      rw [List.map_cons] at e
      cases e
      rw [PySem.W.maxD_ints] at hr
      cases hr with
      | int _ t' => exact ⟨.int _, H, I.kept hk, ⟨t', rfl⟩, q⟩
def dMaxDef (aa ak : DA) : DE := fun ds ms P => aa ds ms fun xs m1 => ak ds m1 fun zs m2 => match xs, zs with
  | [.lst ys], [.int d] => ∃ ns : List Int, ys = ns.map D.int ∧ P (.int (maxOf ns d)) m2
  | _, _ => False
theorem DRs.toInts {K : PySem.W.Frag} {F : Hp} : ∀ {vs : List V} {zs : List Int}, DRs K F vs (zs.map D.int) → vs = zs.map V.int
  | _, [], .nil => rfl
  | _, z :: zs, .cons h t => by cases h; rw [DRs.toInts t]; rfl
theorem pd_maxDef {X : Cx} {p pos : Pos} {e : Expr} {kws : List Keyword} {aa ak : DA} (hc : X.calm = true) (hu : X.A.units + 64 < cLine) (hg : Gl X "max") (hm : X.mg "max" = none) (ha : PDA X [e] aa) (hk : PDK X kws ak)
    (he : backTo pos (starEach [e] X.env) = (false, eval e X.env) :: backTo pos (starEach [] X.env) := by rfl) (hpl : (backTo pos (starEach [e] X.env)).any (·.1) = false := by rfl)
    (hall : (backToKw pos (keywordEach kws X.env)).all (·.1.isSome) = true := by rfl) (hnone : (backToKw pos (keywordEach kws X.env)).any (·.1.isNone) = false := by rfl) (hks : (backToKw pos (keywordEach kws X.env)).filterMap (·.1) = [("default" : Str)] := by rfl) :
    PD X (.Call (.Name "max" p) [e] kws pos) (dMaxDef aa ak) :=
  peImp (pe_callBK (ck_max hc hu) hg hm (by decide +kernel) ha hk (by decide) (by decide) he hpl hall hnone hks) fun σ H Q ⟨F, ds, ms, P, R, S, h1, h2⟩ =>
    ⟨F, ds, ms, _, R, S, h1, fun xs m1 vs F1 H1 p1 R1 s1 r1 => ⟨F1, ds, m1, _, R1, S.mono s1.sub, p1, fun zs m2 ws F2 H2 p2 R2 s2 r2 => by
      match xs, zs, r1, r2, p2 with
      | [.lst ys], [.int d], .cons (.lst ha hs) .nil, .cons (.int _) .nil, ⟨ns, e, p3⟩ =>
        subst e
        have e2 := hs.toInts
        subst e2
        exact ⟨_, ns, d, rfl, rfl, SqL.of (R2.sub _ _ (s2.sub _ _ ha)), h2 _ m2 _ F2 H2 p3 R2 (s1.trans s2) (.int _)⟩⟩⟩
section
variable {ds : DS} {ms m : MS} {P : D → MS → Prop} {aa ak : DA}
def mMaxD (xs zs : List D) (m : MS) (P : D → MS → Prop) : Prop := match xs, zs with
  | [.lst ys], [.int d] => ∃ ns : List Int, ys = ns.map D.int ∧ P (.int (maxOf ns d)) m
  | _, _ => False
theorem w_maxDef (h : ArG aa ds ms fun xs m1 => ArG ak ds m1 fun zs m2 => mMaxD xs zs m2 P) : dMaxDef aa ak ds ms P := h
theorem w_mMaxD {ns : List Int} {d : Int} (h : P (.int (maxOf ns d)) m) : mMaxD [.lst (ns.map D.int)] [.int d] m P := ⟨ns, rfl, h⟩
end
/-! entries -/
section
variable {E : EN} {ds : DS} {ms : MS} {P : D → MS → Prop} {t : DTS} {de da db dc : DE} {g : DG} {aa : DA} {di : DI} {i : Nat} {f : MF} {ts : List DE}
theorem r_frzS (h : StG (dFrzS i t) E ds ms) : dFrzS i t E ds ms := h
theorem r_setIx (h : StG (dSetIx da db dc) E ds ms) : dSetIx da db dc E ds ms := h
theorem r_lcM {tt : DT} {te : DE} {vs : List Nat} (h : ExG (dLcM di g tt te vs) ds ms P) : dLcM di g tt te vs ds ms P := h
theorem r_m1 (h : ExG (dM1 f da db) ds ms P) : dM1 f da db ds ms P := h
theorem r_joined (h : ExG (dJoined ts) ds ms P) : dJoined ts ds ms P := h
theorem r_frz (h : ExG (dFrz de) ds ms P) : dFrz de ds ms P := h
theorem r_append (h : ExG (dAppend de aa) ds ms P) : dAppend de aa ds ms P := h
end
end DL

namespace DL
open PySem PySem.Spec PyProof.Rows L2 SX TL NumText

/-! ### texts by their signs -/
def dig (c : Nat) : Bool := decide (48 ≤ c) && decide (c ≤ 57)
/-- the figures of a whole number from nought on, written as it is written -/
def figs (l : List Nat) : Bool := !l.isEmpty && l.all dig && (l == [48] || l.head? != some 48)
def numI (i : Int) : List Nat := if i < 0 then 45 :: numL i.natAbs else numL i.natAbs
theorem dig_iff {c : Nat} : dig c = true ↔ 48 ≤ c ∧ c ≤ 57 := by unfold dig; simp
theorem digs_iff {l : List Nat} : l.all dig = true ↔ AllDigits l := by
  rw [List.all_eq_true]
  exact ⟨fun h c hc => dig_iff.mp (h c hc), fun h c hc => dig_iff.mpr (h c hc)⟩
theorem val_snoc (l : List Nat) (c : Nat) : digitsVal (l ++ [c]) = digitsVal l * 10 + (c - 48) := by
  unfold digitsVal; rw [List.foldl_append]; rfl
theorem val_from (l : List Nat) : ∀ a : Nat, l.foldl (fun acc c => acc * 10 + (c - 48)) a = a * 10 ^ l.length + digitsVal l := by
  unfold digitsVal
  induction l with
  | nil => intro a; simp
  | cons c r ih =>
    intro a
    rw [List.foldl_cons, List.foldl_cons, ih, ih (0 * 10 + (c - 48)), List.length_cons, Nat.pow_succ]
    have e : (a * 10 + (c - 48)) * 10 ^ r.length = a * (10 ^ r.length * 10) + (0 * 10 + (c - 48)) * 10 ^ r.length := by
      rw [Nat.add_mul, Nat.mul_assoc, Nat.mul_comm 10, Nat.zero_mul, Nat.zero_add]
    rw [e, Nat.add_assoc]
theorem val_app (a b : List Nat) : digitsVal (a ++ b) = digitsVal a * 10 ^ b.length + digitsVal b := by
  have h := val_from b (digitsVal a)
  rw [← h]
  unfold digitsVal
  rw [List.foldl_append]
theorem val_cons (c : Nat) (r : List Nat) : digitsVal (c :: r) = (c - 48) * 10 ^ r.length + digitsVal r := by
  have := val_app [c] r
  rw [List.cons_append, List.nil_append] at this
  rw [this]
  show (0 * 10 + (c - 48)) * _ + _ = _
  rw [Nat.zero_mul, Nat.zero_add]
theorem val_pos {c : Nat} {r : List Nat} (h : 48 < c) : 1 ≤ digitsVal (c :: r) := by
  rw [val_cons]
  have h1 : 1 ≤ 10 ^ r.length := Nat.one_le_pow _ _ (by decide)
  have h2 : 1 * 1 ≤ (c - 48) * 10 ^ r.length := Nat.mul_le_mul (by omega) h1
  omega
theorem val_lt {l : List Nat} (h : AllDigits l) : digitsVal l < 10 ^ l.length := by
  induction l with
  | nil => decide
  | cons c r ih =>
    have h1 := h.head
    have h2 := ih h.tail
    rw [val_cons, List.length_cons, Nat.pow_succ]
    have h3 : (c - 48) * 10 ^ r.length ≤ 9 * 10 ^ r.length := Nat.mul_le_mul_right _ (by omega)
    omega
theorem figs_ne {l : List Nat} (h : figs l = true) : l ≠ [] := by
  rintro rfl; cases h
theorem figs_digs {l : List Nat} (h : figs l = true) : AllDigits l := by
  unfold figs at h
  simp only [Bool.and_eq_true] at h
  exact digs_iff.mp h.1.2
theorem figs_head {c : Nat} {r : List Nat} (h : figs (c :: r) = true) : (c = 48 ∧ r = []) ∨ 48 < c := by
  have hd := (figs_digs h).head
  unfold figs at h
  simp only [Bool.and_eq_true, Bool.or_eq_true, beq_iff_eq, List.cons.injEq, List.head?_cons, bne_iff_ne, ne_eq, Option.some.injEq] at h
  rcases h.2 with h | h
  · exact .inl h
  · exact .inr (by omega)
theorem figs_of {c : Nat} {r : List Nat} (hd : AllDigits (c :: r)) (h : 48 < c) : figs (c :: r) = true := by
  unfold figs
  simp only [Bool.and_eq_true, Bool.or_eq_true, bne_iff_ne, ne_eq, List.head?_cons, Option.some.injEq]
  exact ⟨⟨rfl, digs_iff.mpr hd⟩, .inr (by omega)⟩
/-- what is written so is the number's own text -/
theorem figs_num : ∀ (n : Nat) (l : List Nat), l.length = n → figs l = true → numL (digitsVal l) = l := by
  intro n
  induction n with
  | zero => intro l hl h; exact absurd (List.length_eq_zero_iff.mp hl) (figs_ne h)
  | succ n ih =>
    intro l hl h
    have hd := figs_digs h
    cases e : l.reverse with
    | nil => rw [List.reverse_eq_nil_iff] at e; rw [e] at hl; cases hl
    | cons c r =>
      have el : l = r.reverse ++ [c] := by rw [← List.reverse_reverse l, e, List.reverse_cons]
      generalize r.reverse = q at el
      subst el
      have hc : 48 ≤ c ∧ c ≤ 57 := hd c (by simp)
      rw [val_snoc]
      cases q with
      | nil =>
        show numL (0 * 10 + (c - 48)) = [c]
        rw [Nat.zero_mul, Nat.zero_add, numL_lt (by omega)]
        congr 1
        omega
      | cons d t =>
        have h1 : 48 < d := by
          rw [List.cons_append] at h
          rcases figs_head h with ⟨_, z⟩ | z
          · simp at z
          · exact z
        have hq : AllDigits (d :: t) := fun x hx => hd x (List.mem_append_left _ hx)
        have fq := figs_of hq h1
        have v1 := val_pos (c := d) (r := t) h1
        have e1 := ih (d :: t) (by simp at hl ⊢; omega) fq
        rw [numL_step (by omega)]
        have e2 : (digitsVal (d :: t) * 10 + (c - 48)) / 10 = digitsVal (d :: t) := by omega
        have e3 : (digitsVal (d :: t) * 10 + (c - 48)) % 10 = c - 48 := by omega
        rw [e2, e3, e1]
        congr 2
        omega
theorem num_figs (n : Nat) : figs (numL n) = true := by
  induction n using Nat.strongRecOn with
  | _ n ih =>
    by_cases h : n < 10
    · rw [numL_lt h]
      by_cases h0 : n = 0
      · subst h0; rfl
      · exact figs_of (fun c hc => by rw [List.mem_singleton.mp hc]; omega) (by omega)
    · have hi := ih (n / 10) (by omega)
      have hd := numL_digits n
      rw [numL_step (by omega)] at hd ⊢
      cases e : numL (n / 10) with
      | nil => exact absurd e (numL_ne _)
      | cons c r =>
        rw [e] at hi hd
        rw [List.cons_append] at hd ⊢
        refine figs_of hd ?_
        rcases figs_head hi with ⟨z1, z2⟩ | z
        · exfalso
          subst z1; subst z2
          have := numL_val (n / 10)
          rw [e] at this
          have z : digitsVal [48] = 0 := rfl
          omega
        · exact z
theorem num_zero : numL 0 = [48] := numL_lt (by decide)
theorem figs_eq {a b : List Nat} (ha : figs a = true) (hb : figs b = true) (h : digitsVal a = digitsVal b) : a = b := by
  rw [← figs_num _ a rfl ha, h, figs_num _ b rfl hb]
/-- a number's text: its signs -/
theorem toStr_int (i : Int) : Str.ofString (toString i) = S (numI i) := by
  unfold numI
  cases i with
  | ofNat n =>
    rw [if_neg (show ¬ (Int.ofNat n < 0) from Int.not_lt.mpr (Int.natCast_nonneg n))]
    exact num_S n
  | negSucc n =>
    rw [if_pos (by omega)]
    have e : toString (Int.negSucc n) = "-" ++ toString ((n + 1 : Nat) : Int) := rfl
    rw [e]
    refine ext_tl ?_
    rw [tl_ofString, String.toList_append, List.map_append, ← tl_ofString, ← tl_ofString, tl_num]
    have h1 : tl (Str.ofString "-") = [45] := by decide +kernel
    rw [h1]
    rfl
theorem repS_int (i : Int) : repS (.int i) = S (numI i) := toStr_int i
theorem numL_len' {n k : Nat} (h : n < 2 ^ k) : (numL n).length ≤ k + 1 := by
  refine Nat.le_trans (numL_len (k := k + 1) (by omega) (Nat.lt_of_lt_of_le h ?_)) (Nat.le_refl _)
  exact Nat.le_trans (Nat.pow_le_pow_left (by decide) k) (Nat.pow_le_pow_right (by decide) (by omega))
theorem numI_free {i : Int} {c : Nat} (h : c < 45 ∨ c = 46 ∨ c = 47 ∨ 57 < c) : c ∉ numI i := by
  unfold numI
  split
  · intro hm
    rcases List.mem_cons.mp hm with z | z
    · omega
    · exact numL_free (by omega) z
  · exact numL_free (by omega)
/-! ### slices -/
theorem cutS_S (l : List Nat) (lo hi : Option Int) : cutS (S l) lo hi = S (cutL l lo hi) := by
  unfold cutS cutL
  rw [S_len]
theorem cutL_to {α : Type} (l : List α) (i : Int) (h : 0 ≤ i) : cutL l none (some i) = l.take i.toNat := by
  obtain ⟨n, rfl⟩ := Int.eq_ofNat_of_zero_le h
  unfold cutL
  rw [show HT.sIx l.length l.length (some (n : Int)) = min n l.length from HT.sIx_nat _ _ n, HT.sIx_none, Int.toNat_natCast]
  show List.take (min n l.length - 0) (l.drop 0) = _
  rw [List.drop_zero, Nat.sub_zero, ← List.take_eq_take_min]
theorem cutL_from {α : Type} (l : List α) (i : Int) (h : 0 ≤ i) : cutL l (some i) none = l.drop i.toNat := by
  obtain ⟨n, rfl⟩ := Int.eq_ofNat_of_zero_le h
  unfold cutL
  rw [show HT.sIx l.length 0 (some (n : Int)) = min n l.length from HT.sIx_nat _ _ n, HT.sIx_none, Int.toNat_natCast]
  rw [List.take_of_length_le (by rw [List.length_drop]; omega)]
  by_cases hn : n ≤ l.length
  · rw [Nat.min_eq_left hn]
  · rw [Nat.min_eq_right (by omega), List.drop_length, List.drop_of_length_le (by omega)]
theorem cutL_mid {α : Type} (l : List α) (i j : Int) (h : 0 ≤ i) (hj : i ≤ j) : cutL l (some i) (some j) = (l.drop i.toNat).take (j - i).toNat := by
  obtain ⟨n, rfl⟩ := Int.eq_ofNat_of_zero_le h
  obtain ⟨m, rfl⟩ := Int.eq_ofNat_of_zero_le (Int.le_trans h hj)
  unfold cutL
  rw [show HT.sIx l.length 0 (some (n : Int)) = min n l.length from HT.sIx_nat _ _ n, show HT.sIx l.length l.length (some (m : Int)) = min m l.length from HT.sIx_nat _ _ m, Int.toNat_natCast]
  by_cases hn : n ≤ l.length
  · rw [Nat.min_eq_left hn]
    by_cases hm : m ≤ l.length
    · rw [Nat.min_eq_left hm]
      congr 1
      omega
    · rw [Nat.min_eq_right (by omega), List.take_of_length_le (by rw [List.length_drop]; omega), List.take_of_length_le (by rw [List.length_drop]; omega)]
  · rw [Nat.min_eq_right (show l.length ≤ n by omega), List.drop_length, List.take_nil, List.drop_of_length_le (by omega), List.take_nil]
theorem cutL_1 {α : Type} (l : List α) : cutL l (some 1) none = l.drop 1 := cutL_from l 1 (by decide)
theorem S_app (a b : List Nat) : S a ++ S b = S (a ++ b) := S_cat a b
theorem lenS (l : List Nat) : (S l).length = l.length := S_len l
theorem tlS (l : List Nat) : (S l).cps.toList = l := rfl
theorem lit (s : String) (l : List Nat) (h : tl (Str.ofString s) = l := by decide +kernel) : Str.ofString s = S l := ext_tl h
theorem starts_S (a b : List Nat) : Txt.startswith (S a) (S b) = decide (a.take b.length = b) := by
  unfold Txt.startswith
  rw [StrLaws.subAt_eq, lenS, lenS]
  show (decide (0 + b.length ≤ a.length) && (List.take b.length (List.drop 0 a) == b)) = _
  rw [List.drop_zero]
  by_cases h : a.take b.length = b
  · have h2 := congrArg List.length h
    rw [List.length_take] at h2
    rw [decide_eq_true h, decide_eq_true (by omega), h]
    simp
  · rw [decide_eq_false h]
    have : (List.take b.length a == b) = false := by simp [h]
    rw [this, Bool.and_false]
/-! ### int(text) -/
theorem int_figs {l : List Nat} (h : AllDigits l) (hne : l ≠ []) (hl : l.length ≤ 640) : intText? (S l) = some ((digitsVal l : Nat) : Int) := intText_digits (x := S l) h hne (by rw [lenS]; omega)
theorem int_neg {l : List Nat} (h : AllDigits l) (hne : l ≠ []) (hl : l.length ≤ 639) : intText? (S (45 :: l)) = some (-((digitsVal l : Nat) : Int)) := intText_neg (x := S (45 :: l)) rfl h hne (by rw [lenS, List.length_cons]; omega)
/-! ### zfill of a number's text -/
theorem rep_val : ∀ k : Nat, digitsVal (List.replicate k 48) = 0
  | 0 => rfl
  | k + 1 => by rw [List.replicate_succ, val_cons, rep_val k]; simp
theorem zfill_num {n : Nat} (h : n < 10 ^ 60) : Txt.zfill (S (numL n)) 60 = S (List.replicate (60 - (numL n).length) 48 ++ numL n) := by
  have hl := numL_len (k := 60) (by decide) h
  unfold Txt.zfill
  rw [lenS]
  by_cases h60 : (60 : Int) ≤ ((numL n).length : Nat)
  · rw [if_pos h60]
    have e : 60 - (numL n).length = 0 := by omega
    rw [e]
    rfl
  · rw [if_neg h60]
    have e : Int.toNat 60 - (numL n).length = 60 - (numL n).length := rfl
    rw [e]
    unfold zfilled
    have hd := numL_digits n
    cases e2 : numL n with
    | nil => exact absurd e2 (numL_ne n)
    | cons c r =>
      rw [e2] at hd
      have hc := hd.head
      have e3 : (S (c :: r)).cps[0]? = some c := rfl
      rw [e3]
      have hp : ∀ m : Nat, Builtin.Str.padded (S (c :: r)) m 0 48 = S (List.replicate m 48 ++ c :: r) := by
        intro m
        refine ext_tl ?_
        unfold Builtin.Str.padded
        simp [tl]
      have h43 : c ≠ 43 := by omega
      have h45 : c ≠ 45 := by omega
      rw [← hp]
      split
      · rename_i z; cases z; omega
      · rename_i z; cases z; omega
      · rfl
theorem zf_len {n : Nat} (h : n < 10 ^ 60) : (List.replicate (60 - (numL n).length) 48 ++ numL n).length = 60 := by
  have hl := numL_len (k := 60) (by decide) h
  rw [List.length_append, List.length_replicate]; omega
/-- a number's text is that of its front, and its last sixty figures -/
theorem num_cut {n : Nat} (h : 10 ^ 60 ≤ n) : numL n = numL (n / 10 ^ 60) ++ (List.replicate (60 - (numL (n % 10 ^ 60)).length) 48 ++ numL (n % 10 ^ 60)) := by
  have hm : n % 10 ^ 60 < 10 ^ 60 := Nat.mod_lt _ (by decide)
  have hq : 1 ≤ n / 10 ^ 60 := Nat.div_pos h (by decide)
  have hz := zf_len hm
  refine figs_eq (num_figs n) ?_ ?_
  · have f := num_figs (n / 10 ^ 60)
    cases e : numL (n / 10 ^ 60) with
    | nil => exact absurd e (numL_ne _)
    | cons c r =>
      rw [e] at f
      rw [List.cons_append]
      refine figs_of (fun x hx => ?_) ?_
      · rw [← List.cons_append] at hx
        rcases List.mem_append.mp hx with hx | hx
        · exact figs_digs f x hx
        · rcases List.mem_append.mp hx with hx | hx
          · rw [List.eq_of_mem_replicate hx]; decide
          · exact numL_digits _ x hx
      · rcases figs_head f with ⟨z1, z2⟩ | z
        · exfalso
          subst z1; subst z2
          have := numL_val (n / 10 ^ 60)
          rw [e] at this
          have z : digitsVal [48] = 0 := rfl
          omega
        · exact z
  · rw [numL_val, val_app, hz, val_app, rep_val, numL_val, numL_val, Nat.zero_mul, Nat.zero_add]
    rw [Nat.mul_comm]
    exact (Nat.div_add_mod n (10 ^ 60)).symm
/-! stepping -/
section
variable {E : EN} {ds : DS} {ms m : MS} {P : D → MS → Prop} {PA : List D → MS → Prop} {c : DT} {tb : DTS} {de : DE} {aa : DA} {n : Nat} {z : Str} {i j k : Int}
theorem w_whileN (h : whileD c tb E n ds ms) : StG (dWhile c tb) E ds ms := ⟨n, h⟩
theorem w_whS (h : TsG c ds ms fun b m => if b = true then StG tb (EN.lp E (whileD c tb E n)) ds m else NxG E ds m) : whileD c tb E (n + 1) ds ms := h
def mStrI (d : D) (m : MS) (P : List D → MS → Prop) : Prop := match d with
  | .str z => P (strD z) m
  | _ => False
theorem w_istr (h : ExG de ds ms fun d m => mStrI d m PA) : iStrD de ds ms PA := h
theorem w_mStrI (h : PA (strD z) m) : mStrI (.str z) m PA := h
def mRng3 (xs : List D) (m : MS) (P : List D → MS → Prop) : Prop := match xs with
  | [.int i, .int j, .int c] => ∃ n, RgC i j c n ∧ P (rngC i c n) m
  | _ => False
theorem w_irng3 (h : ArG aa ds ms fun xs m => mRng3 xs m PA) : iRange3 aa ds ms PA := h
theorem w_mRng3 (e : RgC i j k n) (h : PA (rngC i k n) m) : mRng3 [.int i, .int j, .int k] m PA := ⟨n, e, h⟩
end
/-- range(i, j, k), short -/
theorem rgc_up {i j k : Int} (h0 : 0 ≤ i) (hj : i ≤ j) (h1 : j < 1000000) (hk : 0 < k) (hk2 : k < 1000000) : RgC i j k (((j - i + k - 1) / k).toNat) := by
  have hq : Builtin.Range.rangeSize i j k = (j - i + k - 1) / k := by
    unfold Builtin.Range.rangeSize
    rw [if_pos (by omega)]
    by_cases h : i < j
    · rw [if_pos h]
      have e : j - i + k - 1 = (j - i - 1) + 1 * k := by omega
      rw [e, Int.add_mul_ediv_right _ _ (by omega)]
    · rw [if_neg h]
      have e : j - i + k - 1 = k - 1 := by omega
      rw [e, Int.ediv_eq_zero_of_lt (by omega) (by omega)]
  have hn : 0 ≤ (j - i + k - 1) / k := Int.ediv_nonneg (by omega) (by omega)
  have hl : (j - i + k - 1) / k ≤ j - i + k - 1 := Int.ediv_le_self _ (by omega)
  have hf : ∀ x : Int, -(2 ^ 63) ≤ x → x < 2 ^ 63 → Builtin.Range.rangeFitsLong x = true := fun x a b => by
    unfold Builtin.Range.rangeFitsLong
    rw [decide_eq_true a, decide_eq_true b]; rfl
  refine ⟨by omega, by omega, ?_, by rw [hq]; omega⟩
  unfold Builtin.Range.small
  rw [hq, hf i (by omega) (by omega), hf j (by omega) (by omega), hf k (by omega) (by omega), hf _ (by omega) (by omega), if_pos (show k > 0 by omega), hf _ (by omega) (by omega)]
  simp
section
variable {m : MS} {P : Bool → Prop} {b : Bool} {xs : List D} {i : Int}
theorem w_truB (h : P b) : truD (.bl b) m P := h
theorem w_truL (h : P (!xs.isEmpty)) : truD (.lst xs) m P := h
theorem w_truI (h : P (i != 0)) : truD (.int i) m P := h
end
/-! ### cut at a sign -/
theorem pre1 (s c : Nat) (r : List Nat) : pre [s] (c :: r) = (c == s) := by
  unfold pre
  simp
theorem spl_par (s : Nat) : ∀ (l acc : List Nat), (par [s] acc l = none ∧ spl [s] 0 acc l = [acc ++ l] ∧ s ∉ l) ∨ ∃ a b, par [s] acc l = some (acc ++ a, b) ∧ spl [s] 0 acc l = (acc ++ a) :: spl [s] 0 [] b ∧ s ∉ a ∧ l = a ++ s :: b
  | [], acc => .inl ⟨rfl, by rw [List.append_nil]; rfl, by simp⟩
  | c :: r, acc => by
    by_cases h : c = s
    · subst h
      refine .inr ⟨[], r, ?_, ?_, by simp, rfl⟩
      · rw [par_hit (by rw [pre1]; simp), List.append_nil]; rfl
      · rw [spl_hit (by rw [pre1]; simp), List.append_nil]; rfl
    · have hp : pre [s] (c :: r) = false := by rw [pre1]; simp [h]
      rw [par_miss hp, spl_miss hp]
      rcases spl_par s r (acc ++ [c]) with ⟨h1, h2, h3⟩ | ⟨a, b, h1, h2, h3, h4⟩
      · refine .inl ⟨h1, by rw [h2, List.append_assoc]; rfl, ?_⟩
        intro z
        rcases List.mem_cons.mp z with z | z
        · exact h z.symm
        · exact h3 z
      · refine .inr ⟨c :: a, b, by rw [h1, List.append_assoc]; rfl, by rw [h2, List.append_assoc]; rfl, ?_, by rw [h4]; rfl⟩
        intro z
        rcases List.mem_cons.mp z with z | z
        · exact h z.symm
        · exact h3 z
theorem spl_two {s : Nat} {l : List Nat} (h : s ∈ l) : ∃ a b r, spl [s] 0 [] l = a :: b :: r := by
  rcases spl_par s l [] with ⟨_, _, h3⟩ | ⟨a, b, _, h2, _, _⟩
  · exact absurd h h3
  · rcases spl_par s b [] with ⟨_, h4, _⟩ | ⟨a2, b2, _, h4, _, _⟩
    · exact ⟨_, _, _, by rw [h2, h4]⟩
    · exact ⟨_, _, _, by rw [h2, h4]⟩
end DL

namespace DL
open PySem PySem.Spec PyProof.Rows L2

/-! ### a, b, c = a list -/
def sLst (n : Nat) (gs : DGs) : DG := fun d ds P => match d with
  | .lst xs => xs.length = n ∧ gs xs ds P
  | _ => False
section
variable {K : PySem.W.Frag}
theorem tg_lst {gs : TGs} {dgs : DGs} {vs : List Nat} {n : Nat} (hs : TgsD K gs dgs vs) : TgD K (gLst K n gs) (sLst n dgs) vs := by
  refine ⟨fun v σ F H Q d ds P sb S r hp q => ?_, fun v σ H Q h1 => ?_⟩
  · cases r with
    | lst h rs => exact ⟨_, _, rfl, SqL.of (sb _ _ h), by rw [rs.length]; exact hp.1, hs.snd _ _ F H _ _ _ _ sb S rs hp.2 q⟩
    | _ => exact hp.elim
  · obtain ⟨a, xs, e, h2, h3, h4⟩ := h1
    exact ⟨a, xs, e, h2, h3, hs.wip _ _ _ _ h4⟩
theorem mon_lst {gs : TGs} {n : Nat} (b : MonGs gs) : MonG (gLst K n gs) := fun v σ H Q Q' h q =>
  let ⟨a, xs, e, h2, h3, h4⟩ := q; ⟨a, xs, e, h2, h3, b _ _ _ _ _ h h4⟩
end
theorem w_slst {n : Nat} {gs : DGs} {xs : List D} {ds : DS} {PS : DS → Prop} (e : xs.length = n) (h : TgsG gs xs ds PS) : sLst n gs (.lst xs) ds PS := ⟨e, h⟩
end DL

namespace DL
open PySem PySem.W PySem.Calls PySem.PX
/-! KeyError, as a base of own classes: its __new__ is LookupError's -/
abbrev bmKey : List Value := [.type "KeyError", .type "LookupError", .type "Exception", .type "BaseException", .type "object"]
theorem keyStore : StoreFacts "KeyError" bmKey "object.__setattr__" "object" := { mro := by kernel_rfl, slot := .of (owner := "object") (n := "__setattr__") (by rw [typeLookup_type, builtinLookup_eq_fast]; kernel_rfl) (by decide +kernel) (by decide +kernel) (by decide +kernel) (by first | exact .inl (by decide +kernel) | exact .inr (by decide +kernel)) (by rw [isSubtype_type]; kernel_rfl), entry := F.store_LookupError.entry, kind := by decide +kernel, split := by decide +kernel, hasOwner := by decide +kernel, args := fun a b c => by unfold argsOk; kernel_rfl, passes := fun self => by kernel_rfl }
theorem keyKxs : PySem.W.KxsFacts "KeyError" "KeyError.__init__" := ⟨by show builtinType _ = _; rw [builtinType_eq_fast]; kernel_rfl, by first | kernel_rfl | rfl⟩
theorem keyInit : Slot "KeyError" "__init__" "KeyError.__init__" := .of (owner := "KeyError") (n := "__init__") (by rw [typeLookup_type, builtinLookup_eq_fast]; kernel_rfl) (by decide +kernel) (by decide +kernel) (by decide +kernel) (by first | exact .inl (by decide +kernel) | exact .inr (by decide +kernel)) (by rw [isSubtype_type]; kernel_rfl)
theorem keyEntry : entryFor table "KeyError.__init__" = some Builtin.«BaseException.__init__» := entryFor_alias (id' := "BaseException.__init__") (by rw [fastTable_eq_tree]; kernel_rfl) (by first | rfl | decide +kernel) (by decide +kernel) (by rw [fastTable_eq_tree]; kernel_rfl)
theorem keyKind : builtinKind "KeyError.__init__" = some .slot := by kernel_rfl
theorem keyRow : Manifest.signature? "KeyError.__init__" = some ⟨.positional, "*", "KeyError", .self, [⟨"args", .varPos, false⟩]⟩ := by kernel_rfl
section
variable {prog : Program} {w : World} {A : Around} {E : Value → Shared → Prop} {R : Result → Shared → Prop} {h : Heap} {g : Array GenState} {d : Drawn} {t : Nat} {os : OsState} {nm q : Str} {C N : Addr} {bs bm : List Value} {hdct : Bool} {sn : List Str} {sub : List Value} {ab : Bool} {col : Option Bool} {dd : Option Addr} {k0 k1 k2 k3 k5 : Option Value}
abbrev keyO (nm q : Str) (C N : Addr) (bs bm : List Value) (hdct : Bool) (sn : List Str) (sub : List Value) (ab : Bool) (col : Option Bool) (dd : Option Addr) (k0 k1 k2 k3 k5 : Option Value) : Obj := excClassObj nm q C N bs bm hdct sn sub ab col dd k0 k1 k2 k3 k5 "LookupError.__new__"
theorem key_check {rest : List Value} {Q : Unit → Shared → Prop} (hL : (Value.ref C :: bm).contains (.type "LookupError") = true) (hC : h.get? C = some (keyO nm q C N bs bm hdct sn sub ab col dd k0 k1 k2 k3 k5)) (hq : Q () ⟨h, g, d, t, os⟩) : wpAny (model prog w) A (checkBuiltinCall "LookupError.__new__" ⟨.ref C :: rest, []⟩) Q E ⟨h, g, d, t, os⟩ := by
  have hs0 := F.excBase_LookupError.noStar
  simp only [checkBuiltinCall, F.excBase_LookupError.newKind, F.excBase_LookupError.newSplit, F.excBase_LookupError.newRow]; (repeat (first | refine wpAny_loadPart_at hC ?_ | (refine wpAny_isSubtype_exc hC ?_; rw [hL]) | refine wpAny_staticBase_exc hC ?_ | refine wpAny_madeBy_exc hC ?_ | simp only [bne_self_eq_false, Bool.false_eq_true, if_false] | wp_step)); exact hq
theorem key_new {rest : List Value} (hL : (Value.ref C :: bm).contains (.type "LookupError") = true) (hA : (Value.ref C :: bm).contains (.type "AttributeError") = false) (hN : (Value.ref C :: bm).contains (.type "NameError") = false) (hC : h.get? C = some (keyO nm q C N bs bm hdct sn sub ab col dd k0 k1 k2 k3 k5)) (hz : rest.length ≤ sizeLine)
    (hq : R (.ok (.ret (.ref (h.objs.size + 1)))) ⟨(h.push { cls := .type "tuple", data := .seq rest.toArray }).push { cls := .ref C, data := .fields #[.ref h.objs.size, .none, .none, .none, .bool false, .none] }, g, d, t, os⟩) : codeAny (model prog w) A (.builtin "LookupError.__new__" ⟨.ref C :: rest, []⟩) R ⟨h, g, d, t, os⟩ := by
  have hends := F.excBase_LookupError.ends
  refine codeAny_builtinAt F.excBase_LookupError.entry ?_; unfold Builtin.«BaseException.__new__»; refine wpAt_bind ?_; show wpAt _ _ _ (stack >>= _) _ _ _; refine wpAt_bind (wpAt_stack fun p below => wpAt_of_wpAny ?_); wp_walk; refine wpAt_of_wpAny ?_; rw [F.excBase_LookupError.owner]
  (repeat (first | with_reducible refine wpAny_madeHere_exc F.excBase_LookupError.canon hC ?_ | with_reducible refine wpAny_loadPart_at hC ?_ | (with_reducible refine wpAny_isSubtype_exc hC ?_; first | rw [hL] | rw [hA] | rw [hN]) | wp_step)); show R _ _; rw [Heap.size_push]; exact hq
theorem key_type {rest : List Value} {fI : Addr} {Q : Fin → Shared → Prop} (hL : (Value.ref C :: bm).contains (.type "LookupError") = true) (hA : (Value.ref C :: bm).contains (.type "AttributeError") = false) (hN : (Value.ref C :: bm).contains (.type "NameError") = false) (hC : h.get? C = some (keyO nm q C N bs bm hdct sn sub ab col dd k0 k1 k2 k3 k5)) (hi : PySem.W.Looks (model prog w) h (typeLookup (.ref C) "__init__") (some (.ref fI))) (hb : ∀ self, PySem.W.Looks (model prog w) h (bindSpecial (.ref fI) self) (.ref fI, [self])) (hz : rest.length ≤ sizeLine)
    (hq : codeAny (model prog w) A (.call (.ref fI) ⟨.ref (h.objs.size + 1) :: rest, []⟩) (fun r s' => match r with | .ok (.ret v) => v = .none ∧ Q (.done (.ret (.ref (h.objs.size + 1)))) s' | .ok _ => False | .error e => E e s') ⟨(h.push (PySem.W.kdv_tup rest)).push (excO C h.objs.size), g, d, t, os⟩) : wpAny (model prog w) A (Builtin.«type.__call__» ⟨.ref C :: rest, []⟩) Q E ⟨h, g, d, t, os⟩ := by
  (repeat (first | with_reducible refine wpAny_loadPart_at hC ?_ | with_reducible refine wpAny_madeBy_exc hC ?_ | wp_step)); refine codeAny_call_builtin_code (Code.quiet_builtin _ F.excBase_LookupError.quiet) (key_check hL hC ?_); refine key_new hL hA hN hC hz ?_; show wpAny _ _ _ _ _ _
  have kk : ∀ b o, h.get? b = some o → ((h.push (PySem.W.kdv_tup rest)).push (excO C h.objs.size)).get? b = some o := fun b o e => Heap.get?_push_of_some _ (Heap.get?_push_of_some _ e)
  have c1 := kk _ _ hC
  have g1 : ((h.push (PySem.W.kdv_tup rest)).push (excO C h.objs.size)).get? (h.objs.size + 1) = some (excO C h.objs.size) := by heap_get
  have cc : (Value.ref C :: bm).contains (.ref C) = true := by simp
  have j1 := hi.keeps kk
  have j2 := (hb (.ref (h.objs.size + 1))).keeps kk
  unfold isInstance
  (repeat (first | with_reducible refine wpAny_loadPart_at g1 ?_ | (with_reducible refine wpAny_isSubtype_exc c1 ?_; rw [cc]) | wp_step)); show wpAny _ _ (typeLookup (.ref C) _) _ _ _; refine j1.at ?_; refine wpAny_holding (wpAny_bind (j2.at ?_)); refine wpAny_bind (wpAny_call (codeAny_mono hq fun r s' z => ?_))
  rcases r with e | (v | _ | _ | _) <;> first | exact z | exact z.elim | skip
  obtain ⟨rfl, z⟩ := z
  first | exact wpAny_pure (wpAny_pure z) | (wp_walk; exact z)
end
theorem xb_key : XB "LookupError.__new__" "KeyError.__init__" bmKey := by
  refine ⟨fun {prog w A R h g d t os nm q C N bs bm hdct sn sub ab col dd k0 k1 k2 k3 k5 rest fI} hT hC hi hb hr hq => ?_, fun {M A E Q h g d t os nm q C N e oe bs bm hdct sn sub ab col dd k0 k1 k2 k3 k5 rest} hC he hc hq => ?_, keyInit.plain, keyEntry⟩
  · have hL : (Value.ref C :: bm).contains (.type "LookupError") = true := by rw [List.contains_cons, hT]; rfl
    have hA : (Value.ref C :: bm).contains (.type "AttributeError") = false := by rw [List.contains_cons, hT]; rfl
    have hN : (Value.ref C :: bm).contains (.type "NameError") = false := by rw [List.contains_cons, hT]; rfl
    have f1 := tc_lookup
    have f2 := tc_bind (.ref C)
    have hTy : (⟨h, g, d, t, os⟩ : Shared).TypeIs (.ref C) "type" := ⟨_, hC, rfl⟩
    refine codeAny_of_tree ?_; show wpAny _ _ (callAny (.ref C) _) _ _ _; (repeat (any_goals (first | assumption | with_reducible refine wpAny_loadPart_at hC ?_ | wp_step))); refine ⟨rfl, ?_⟩
    refine codeAny_call_builtin_at (Code.quiet_builtin _ (by decide +kernel)) entry_typeCall (wpAny_check_type_call_sub hC (key_type hL hA hN hC hi hb hr ?_)); refine codeAny_mono hq fun r s' z => ?_; rcases r with e | (v | _ | _ | _) <;> exact z
  · have hn : ("KeyError" != "*") = true := by decide +kernel
    simp only [checkBoundCall, keyKind, keyRow]; (repeat (first | (with_reducible refine wpAny_loadPart_at he ?_; rw [hc]) | with_reducible refine wpAny_loadPart_at hC ?_ | wp_step)); refine wpAny_onRaise ?_
    rw [show ∀ (a b : String) (n : Nat), Bind.check ⟨.positional, "*", "KeyError", .self, [⟨"args", .varPos, false⟩]⟩ a b n (List.map (fun x => x.fst) ({ pos := Value.ref e :: rest } : Args).kw) = pure () from fun a b n => check_star_args _ _ _ _ _ _]
    exact wpAny_pure hq
end DL

namespace DL
open PySem PySem.Spec PyProof.Rows L2

/-! ### dicts of texts to ints -/
def putD (kvs : List (Str × Int)) (k : Str) (v : Int) : List (Str × Int) :=
  if (kvs.any fun kv => decide (kv.1 = k)) = true then kvs.map fun kv => if kv.1 = k then (kv.1, v) else kv else kvs ++ [(k, v)]
def getD (kvs : List (Str × Int)) (k : Str) : Option Int := (kvs.find? fun kv => decide (kv.1 = k)).map (·.2)
theorem dctK_any (k : Str) : ∀ kvs : List (Str × Int), ((dctK kvs).any fun kv => decide (kv.1 = (.inr k : Key))) = kvs.any fun kv => decide (kv.1 = k)
  | [] => rfl
  | p :: r => by
    show (decide ((Sum.inr p.1 : Key) = .inr k) || (dctK r).any _) = (decide (p.1 = k) || r.any _)
    rw [dctK_any k r]
    congr 1
    exact decide_eq_decide.mpr ⟨fun h => Sum.inr.inj h, fun h => by rw [h]⟩
theorem dctK_map (k : Str) (v : Int) : ∀ kvs : List (Str × Int), ((dctK kvs).map fun kv => if kv.1 = (.inr k : Key) then (kv.1, V.int v) else kv) = dctK (kvs.map fun kv => if kv.1 = k then (kv.1, v) else kv)
  | [] => rfl
  | p :: r => by
    have ih := dctK_map k v r
    unfold dctK at ih ⊢
    simp only [List.map_cons]
    rw [ih]
    congr 1
    by_cases h : p.1 = k
    · simp only [h, if_true]
    · have h2 : ¬ ((Sum.inr p.1 : Key) = .inr k) := fun e => h (Sum.inr.inj e)
      simp only [h, h2, if_false]
theorem dctK_put (kvs : List (Str × Int)) (k : Str) (v : Int) : putK (dctK kvs) (.inr k) (.int v) = dctK (putD kvs k v) := by
  unfold putK putD
  rw [dctK_any, dctK_map]
  split
  · rfl
  · unfold dctK; rw [List.map_append]; rfl
theorem dctK_val (k : Str) : ∀ kvs : List (Str × Int), valV (dctK kvs) (.inr k) = (getD kvs k).map V.int
  | [] => rfl
  | p :: r => by
    have ih := dctK_val k r
    by_cases h : p.1 = k
    · have : valV (dctK (p :: r)) (.inr k) = some (V.int p.2) := valV_pos (p := ((.inr p.1 : Key), V.int p.2)) (by rw [h])
      rw [this]; unfold getD; simp [List.find?_cons, h]
    · have : valV (dctK (p :: r)) (.inr k) = valV (dctK r) (.inr k) := valV_neg (p := ((.inr p.1 : Key), V.int p.2)) (fun e => h (Sum.inr.inj e))
      rw [this, ih]; unfold getD; simp [List.find?_cons, h]
def ddPut (y z : D) (acc : List (Str × Int)) (P : List (Str × Int) → Prop) : Prop := match y, z with
  | .str k, .int v => acc.length < sizeLine ∧ P (putD acc k v)
  | _, _ => False
def compDD (g : DG) (tt : DT) (tk tv : DE) (ds : DS) : List D → List (Str × Int) → MS → (List (Str × Int) → MS → Prop) → Prop
  | [], acc, ms, P => P acc ms
  | x :: r, acc, ms, P => g x ds fun ds2 => tt ds2 ms fun b m3 => if b = true then tk ds2 m3 fun y m4 => tv ds2 m4 fun z m5 => ddPut y z acc fun acc' => compDD g tt tk tv ds r acc' m5 P else compDD g tt tk tv ds r acc m3 P
def dDc (di : DI) (g : DG) (tt : DT) (tk tv : DE) (vs : List Nat) : DE := fun ds ms P => di ds ms fun xs m => compDD g tt tk tv (wipeD ds vs) xs [] m fun ys m' => P (.dct ys) m'
section
variable {K : PySem.W.Frag} {di : DI} {dg : DG} {tt : DT} {tk tv : DE} {g : TG} {vs : List Nat}
theorem lift_dc (hg : TgD K g dg vs) (hm : MonG g) : ∀ σ H Q, lift K (dDc di dg tt tk tv vs) σ H Q → tDc (liftI K di) g (liftT K tt) (lift K tk) (lift K tv) vs σ H Q := fun σ H Q ⟨F, ds, ms, P, R, S, h, q⟩ => by
  refine ⟨F, ds, ms, _, R, S, h, fun xs m F0 H0 J p0 R0 s0 wk L hL => ?_⟩
  have nL : F0 L = none := R0.sub.none hL
  have nM : ∀ p ∈ m, p.1 ≠ L := fun p hp => by
    obtain ⟨_, ws, h2, _⟩ := R0.mu p hp
    exact ne_of_none h2 hL
  let Pv : Nat → Hp → Prop := fun at_ Hc => ∃ F1 m1 acc, Rel K F1 Hc m1 ∧ Stp F0 H0 m F1 Hc m1 ∧ Hc L = some (.dK (dctK acc)) ∧ F1 L = none ∧ (∀ p ∈ m1, p.1 ≠ L) ∧ compDD dg tt tk tv (wipeD ds vs) (xs.drop at_) acc m1 fun ys m' => P (.dct ys) m'
  have first : Pv 0 (upd H0 L (.dK [])) := ⟨F0, m, [], R0.lay hL, ⟨Sub.refl F0, fun a u h1 _ _ => by rw [upd_ne (ne_of_none h1 hL)]; exact h1, fun _ _ h => .inl h, fun q hq => .inl ⟨q, hq, rfl⟩⟩, upd_same, nL, nM, p0⟩
  refine ⟨fun at_ left Hc => Pv at_ Hc ∧ at_ + left = xs.length, ⟨xs.length, first, Nat.zero_add _⟩, fun at_ left H1 held => ?_⟩
  obtain ⟨⟨F1, m1, acc, R1, s1, hD, hF, hM, h1⟩, sum⟩ := held
  have under : Sub F0 H1 := s1.sub.trans R1.sub
  cases left with
  | succ left =>
    have more : at_ < xs.length := by omega
    refine .inr ⟨wk.goes at_ H1 more under, Pv (at_ + 1), fun Hn pn => ⟨left, Nat.lt_succ_self _, pn, by omega⟩, fun x H2 yl => ?_⟩
    obtain ⟨d, hd, hy⟩ := wk.yields at_ H1 x H2 more under yl
    rw [drop_get hd] at h1
    have fin : ∀ {F2 : Hp} {x : V}, Rel K F2 H2 m1 → Stp F0 H0 m F2 H2 m1 → Sub F1 F2 → DR K F2 x d → H2 L = some (.dK (dctK acc)) → F2 L = none →
        g x (L2.wipe σ vs) H2 fun σ2 H3 => L2.wipe σ2 vs = L2.wipe σ vs ∧ liftT K tt σ2 H3 fun b H4 => if b = true then lift K tk σ2 H4 fun y H5 => lift K tv σ2 H5 fun z H6 => ∃ kvs k, y = kV k ∧ H6 L = some (.dK kvs) ∧ kvs.length < sizeLine ∧
          (∃ F1 m1 acc', Rel K F1 (upd H6 L (.dK (putK kvs k z))) m1 ∧ Stp F0 H0 m F1 (upd H6 L (.dK (putK kvs k z))) m1 ∧ (upd H6 L (.dK (putK kvs k z))) L = some (.dK (dctK acc')) ∧ F1 L = none ∧ (∀ p ∈ m1, p.1 ≠ L) ∧ compDD dg tt tk tv (wipeD ds vs) (xs.drop (at_ + 1)) acc' m1 fun ys m' => P (.dct ys) m')
          else ∃ F1 m1 acc, Rel K F1 H4 m1 ∧ Stp F0 H0 m F1 H4 m1 ∧ H4 L = some (.dK (dctK acc)) ∧ F1 L = none ∧ (∀ p ∈ m1, p.1 ≠ L) ∧ compDD dg tt tk tv (wipeD ds vs) (xs.drop (at_ + 1)) acc m1 fun ys m' => P (.dct ys) m' := by
      intro F2 x R2 s2 s12 rx hD2 hF2
      have hw := hg.wip x (L2.wipe σ vs) H2 _ (hg.snd x (L2.wipe σ vs) F2 H2 (fun σ2 H3 => H3 = H2 ∧ ∃ ds2, Sl K F2 σ2 ds2 ∧ tt ds2 m1 fun b m3 => if b = true then tk ds2 m3 fun y m4 => tv ds2 m4 fun z m5 => ddPut y z acc fun acc' => compDD dg tt tk tv (wipeD ds vs) (xs.drop (at_ + 1)) acc' m5 fun ys m' => P (.dct ys) m' else compDD dg tt tk tv (wipeD ds vs) (xs.drop (at_ + 1)) acc m3 fun ys m' => P (.dct ys) m') d (wipeD ds vs) _ R2.sub ((S.wipe vs).mono (s0.sub.trans s2.sub)) rx h1 fun ds2 σ2 h2 S2 => ⟨rfl, ds2, S2, h2⟩)
      refine hm _ _ _ _ _ ?_ hw
      rintro σ2 H3 ⟨e1, rfl, ds2, S2, h2⟩
      refine ⟨e1.trans (wipe_wipe fun u hu => hu), F2, ds2, m1, _, R2, S2, h2, fun b m4 F4 H4 p4 R4 s4 => ?_⟩
      obtain ⟨hD4, hF4, hM4⟩ := s4.kp hD2 hF2 hM
      cases b with
      | false =>
        rw [if_neg Bool.false_ne_true] at p4 ⊢
        exact ⟨F4, m4, acc, R4, s2.trans s4, hD4, hF4, hM4, p4⟩
      | true =>
        rw [if_pos rfl] at p4 ⊢
        refine ⟨F4, ds2, m4, _, R4, S2.mono s4.sub, p4, fun y m5 v5 F5 H5 p5 R5 s5 r5 => ?_⟩
        obtain ⟨hD5, hF5, hM5⟩ := s5.kp hD4 hF4 hM4
        refine ⟨F5, ds2, m5, _, R5, (S2.mono s4.sub).mono s5.sub, p5, fun z m6 v6 F6 H6 p6 R6 s6 r6 => ?_⟩
        obtain ⟨hD6, hF6, hM6⟩ := s6.kp hD5 hF5 hM5
        have s06 := ((s2.trans s4).trans s5).trans s6
        match y, z, r5, r6, p6 with
        | .str k, .int v, .str _, .int _, p6 =>
        refine ⟨dctK acc, .inr k, rfl, hD6, by unfold dctK; rw [List.length_map]; exact p6.1, F6, m6, putD acc k v, ?_, ?_, by rw [upd_same, dctK_put], hF6, hM6, p6.2⟩
        · refine ⟨fun b u e => ?_, fun p hp => ?_, R6.nd, R6.one⟩
          · rw [upd_ne (fun z => by rw [z, hF6] at e; cases e)]; exact R6.sub b u e
          · obtain ⟨z1, ws, z2, z3⟩ := R6.mu p hp
            exact ⟨z1, ws, by rw [upd_ne (hM6 p hp)]; exact z2, z3⟩
        · exact ⟨s06.sub, fun a u z1 z2 z3 => by rw [upd_ne (ne_of_none z1 hL)]; exact s06.keep a u z1 z2 z3, s06.newF, s06.newM⟩
    rcases hy with ⟨rfl, rx⟩ | ⟨T, a, b, da, db, rfl, hT, rfl, rfl, ra', rb'⟩
    · exact fin R1 s1 (Sub.refl F1) (rx.mono s1.sub) hD hF
    · have hne : L ≠ T := ne_of_none hD hT
      exact fin (R1.new hT) (s1.trans (Stp.new R1 hT)) (Sub.new (R1.sub.none hT)) (R1.newTup hT (.cons (ra'.mono s1.sub) (.cons (rb'.mono s1.sub) .nil))) (by rw [upd_ne hne]; exact hD) (by rw [upd_ne hne]; exact hF)
  | zero =>
    have whole : at_ = xs.length := by omega
    subst whole
    refine .inl ⟨wk.stops H1 under, ?_⟩
    rw [List.drop_length] at h1
    have sF : Sub F1 (upd F1 L (.dK (dctK acc))) := Sub.new hF
    refine q _ m1 _ (upd F1 L (.dK (dctK acc))) H1 h1 ?_ (s0.trans ?_) (.dct upd_same)
    · refine ⟨fun b u e => ?_, fun p hp => ?_, R1.nd, R1.one.mono sF⟩
      · by_cases hb : b = L
        · subst hb; rw [upd_same] at e; rw [hD]; exact e
        · rw [upd_ne hb] at e; exact R1.sub b u e
      · obtain ⟨z1, ws, z2, z3⟩ := R1.mu p hp
        exact ⟨by rw [upd_ne (hM p hp)]; exact z1, ws, z2, z3.mono sF⟩
    · refine ⟨s1.sub.trans sF, s1.keep, fun a u e => ?_, s1.newM⟩
      by_cases hb : a = L
      · subst hb; exact .inr (.inl hL)
      · rw [upd_ne hb] at e; exact s1.newF a u e
end
section
variable {X : Cx} {kx vx tg iter o i : Expr} {ifs : List Expr} {scope : Scope} {own : List (Str × Nat)} {pos : Pos} {di : DI} {g : TG} {dg : DG} {tt : DT} {tk tv da db : DE}
theorem pd_dc (hc : X.calm = true) (hN : X.N.Nodup) (hi : PDI X tg iter di) (ok : BlkOk X.N X.env.scope scope own)
    (hg : ∀ (s : Shared) (H : Hp) (C : Addr) (cl : List (Str × Addr)) (fp : List Addr), PG (X.blk s H scope (compEnvC scope cl C X.env) fp) tg g)
    (hd : TgD X.K g dg (own.map (·.2))) (hm : MonG g)
    (ht : ∀ (s : Shared) (H : Hp) (C : Addr) (cl : List (Str × Addr)) (fp : List Addr), PDTs (X.blk s H scope (compEnvC scope cl C X.env) fp) ifs tt)
    (hk : ∀ (s : Shared) (H : Hp) (C : Addr) (cl : List (Str × Addr)) (fp : List Addr), PD (X.blk s H scope (compEnvC scope cl C X.env) fp) kx tk)
    (he : ∀ (s : Shared) (H : Hp) (C : Addr) (cl : List (Str × Addr)) (fp : List Addr), PD (X.blk s H scope (compEnvC scope cl C X.env) fp) vx tv)
    (hs : ∀ x, foldedSetIterable iter X.env x = pure x := by intro _; rfl) :
    PD X (.DictComp kx vx [⟨tg, iter, ifs, 0⟩] scope pos) (dDc di dg tt tk tv (own.map (·.2))) :=
  peImp (pe_dc hc hN hi ok hg ht hk he hs) (lift_dc hd hm)
/-- d[k] of such a dict -/
def dDGet (da db : DE) : DE := fun ds ms P => da ds ms fun x m1 => db ds m1 fun y m2 => match x, y with
  | .dct kvs, .str k => (match getD kvs k with
    | some v => P (.int v) m2
    | none => False)
  | _, _ => False
theorem pd_dget (hu : X.A.units + 1 < cLine) (ho : PD X o da) (hi : PD X i db) (hs : NoSl i) : PD X (.Subscript o i pos) (dDGet da db) :=
  peImp (pe_dget hu ho hi hs) fun σ H Q ⟨F, ds, ms, P, R, S, h1, h2⟩ =>
    ⟨F, ds, ms, _, R, S, h1, fun x m1 v1 F1 H1 p1 R1 s1 r1 => ⟨F1, ds, m1, _, R1, S.mono s1.sub, p1, fun y m2 v2 F2 H2 p2 R2 s2 r2 => by
      match x, y, r1, r2, p2 with
      | .dct kvs, .str k, .dct (a := a) hx, .str _, p2 =>
        cases e : getD kvs k with
        | none => simp only [e] at p2
        | some v =>
          simp only [e] at p2
          refine ⟨a, .int v, rfl, ?_, h2 _ m2 _ F2 H2 p2 R2 (s1.trans s2) (.int v)⟩
          have := DGet.k (k := .inr k) (R2.sub _ _ (s2.sub _ _ hx))
          rw [dctK_val, e] at this
          exact this⟩⟩
end
/-! ### in, not in: a text, a dict -/
def fInDB (neg : Bool) : OF := fun x y ms P => match x, y with
  | .str k, .dct kvs => P (.bl (Bool.xor neg (getD kvs k).isSome)) ms
  | _, _ => False
def fInDct : OF := fInDB false
def fNotInDct : OF := fInDB true
def rInDct (neg : Bool) : R2 := fun x y H Q => ∃ a o, y = .ref a ∧ DGet H a x o ∧ Q (.bl (Bool.xor neg o.isSome)) H
theorem op_inDct {X : Cx} (hu : X.A.units + 64 < cLine) : OpR X (compareOp .In) (rInDct false) := by
  rintro pins s σ H x y v u Q I rx ry ⟨a, o, rfl, g, q⟩
  cases ry
  exact d_in (by omega) I g rx fun s' I' => ⟨.bl _, H, I', rfl, by simpa using q⟩
theorem op_notInDct {X : Cx} (hu : X.A.units + 64 < cLine) : OpR X (compareOp .NotIn) (rInDct true) := by
  rintro pins s σ H x y v u Q I rx ry ⟨a, o, rfl, g, q⟩
  cases ry
  exact d_notIn (by omega) I g rx fun s' I' => ⟨.bl _, H, I', rfl, by simpa using q⟩
theorem opd_inDB {K : PySem.W.Frag} {neg : Bool} : OpD K (rInDct neg) (fInDB neg) := fun F H ms x y dx dy P Q R rx ry h q => by
  match dx, dy, rx, ry, h with
  | .str k, .dct kvs, .str _, .dct (a := a) hx, h =>
    refine ⟨a, valV (dctK kvs) (.inr k), rfl, DGet.k (k := .inr k) (R.sub _ _ hx), ?_⟩
    have e : (valV (dctK kvs) (.inr k)).isSome = (getD kvs k).isSome := by rw [dctK_val, Option.isSome_map]
    rw [e]
    exact q _ ms _ F H h R Stp.refl (.bl _)
theorem opd_inDct {K : PySem.W.Frag} : OpD K (rInDct false) fInDct := opd_inDB
theorem opd_notInDct {K : PySem.W.Frag} : OpD K (rInDct true) fNotInDct := opd_inDB
end DL

namespace DL
open PySem PySem.Spec PyProof.Rows L2

/-! ### xs[a::b], a and b numbers that are written there -/
def stepIx (n : Nat) (a b : Int) : List Nat := sliceRange (sliceBounds (some a) none (some b) n).1 (sliceBounds (some a) none (some b) n).2.1 (sliceBounds (some a) none (some b) n).2.2
def stepL {α : Type} (xs : List α) (a b : Int) : List α := (stepIx xs.length a b).filterMap (xs[·]?)
theorem vals_get : ∀ {xs : List V} {us : List Value} (i : Nat), Vals xs us → (xs[i]? = none ∧ us[i]? = none) ∨ ∃ x u, xs[i]? = some x ∧ us[i]? = some u ∧ RelV x u
  | _, _, _, .nil => .inl ⟨rfl, rfl⟩
  | _, _, 0, .cons r _ => .inr ⟨_, _, rfl, rfl, r⟩
  | _, _, i + 1, .cons _ t => by
    rcases vals_get i t with ⟨h1, h2⟩ | ⟨x, u, h1, h2, h3⟩
    · exact .inl ⟨h1, h2⟩
    · exact .inr ⟨x, u, h1, h2, h3⟩
theorem vals_pick {xs : List V} {us : List Value} (r : Vals xs us) : ∀ ix : List Nat, Vals (ix.filterMap (xs[·]?)) (ix.filterMap (us[·]?))
  | [] => .nil
  | i :: ix => by
    rcases vals_get i r with ⟨h1, h2⟩ | ⟨x, u, h1, h2, h3⟩
    · rw [List.filterMap_cons_none h1, List.filterMap_cons_none h2]; exact vals_pick r ix
    · rw [List.filterMap_cons_some h1, List.filterMap_cons_some h2]; exact .cons h3 (vals_pick r ix)
theorem drs_get {K : PySem.W.Frag} {F : Hp} : ∀ {xs : List V} {us : List D} (i : Nat), DRs K F xs us → (xs[i]? = none ∧ us[i]? = none) ∨ ∃ x u, xs[i]? = some x ∧ us[i]? = some u ∧ DR K F x u
  | _, _, _, .nil => .inl ⟨rfl, rfl⟩
  | _, _, 0, .cons r _ => .inr ⟨_, _, rfl, rfl, r⟩
  | _, _, i + 1, .cons _ t => by
    rcases drs_get i t with ⟨h1, h2⟩ | ⟨x, u, h1, h2, h3⟩
    · exact .inl ⟨h1, h2⟩
    · exact .inr ⟨x, u, h1, h2, h3⟩
theorem drs_pick {K : PySem.W.Frag} {F : Hp} {xs : List V} {us : List D} (r : DRs K F xs us) : ∀ ix : List Nat, DRs K F (ix.filterMap (xs[·]?)) (ix.filterMap (us[·]?))
  | [] => .nil
  | i :: ix => by
    rcases drs_get i r with ⟨h1, h2⟩ | ⟨x, u, h1, h2, h3⟩
    · rw [List.filterMap_cons_none h1, List.filterMap_cons_none h2]; exact drs_pick r ix
    · rw [List.filterMap_cons_some h1, List.filterMap_cons_some h2]; exact .cons h3 (drs_pick r ix)
def dStepL (a b : Int) (de : DE) : DE := fun ds ms P => de ds ms fun x m => match asL x m with
  | some xs => P (.lst (stepL xs a b)) m
  | none => False
/-! ### a pair whose second is a list written to: it changes no more -/
def mFrzT (d : D) (m : MS) (P : D → MS → Prop) : Prop := ∃ a p xs, d = .tup [a, .opq (.ref p)] ∧ look m p = some xs ∧ P (.tup [a, .lst xs]) (drp m p)
def dFrzT (de : DE) : DE := fun ds ms P => de ds ms fun d m => mFrzT d m P
theorem pd_frzT {X : Cx} {e : Expr} {de : DE} (h : PD X e de) : PD X e (dFrzT de) := peImp h fun σ H Q ⟨F, ds, ms, P, R, S, h1, h2⟩ =>
  ⟨F, ds, ms, _, R, S, h1, fun d m v F1 H1 p1 R1 s1 r1 => by
    obtain ⟨a, p, xs, rfl, e1, p1⟩ := p1
    cases r1 with
    | tup hq hs =>
    cases hs with
    | cons ra hs =>
    cases hs with
    | cons rp hs =>
    cases hs
    cases rp
    obtain ⟨vs, z1, z2, z3⟩ := relFrz R1 e1
    exact h2 _ _ _ _ _ p1 z1 (s1.trans z2) (.tup (z2.sub.sqT hq) (.cons (ra.mono z2.sub) (.cons z3 .nil)))⟩
def mClear (x : D) (m : MS) (P : D → MS → Prop) : Prop := ∃ p xs, x = .opq (.ref p) ∧ look m p = some xs ∧ P .non (put m p [])
def dClear (dx : DE) : DE := fun ds ms P => dx ds ms fun x m => mClear x m P
theorem mtr_clear {X : Cx} : MtR X "list.clear" rClear := fun pins s σ H x xs v us Q I rx rv h => mt_clear pins s σ H x xs v us Q I rx rv h
theorem pd_clear {X : Cx} {o : Expr} {dx : DE} {apos cpos : Pos} (ho : PD X o dx)
    (hbase : attributeBase o "clear" X.env (eval o X.env) = eval o X.env := by rfl) (hline : (apos.endLine == cpos.line) = true := by rfl) : PD X (.Call (.Attribute o "clear" apos) [] [] cpos) (dClear dx) :=
  peImp (pe_bm0 (T := "list") (name := "clear") (id := "list.clear") (r := rClear) PySem.F.plainAttrs_list PySem.F.slot_list_clear PySem.F.type_list_clear mtr_clear ho hbase hline) fun σ H Q ⟨F, ds, ms, P, R, S, h1, h2⟩ =>
    ⟨F, ds, ms, _, R, S, h1, fun x m v F1 H1 p1 R1 s1 r1 => by
      obtain ⟨p, xs, rfl, e1, p1⟩ := p1
      cases r1
      obtain ⟨hF, vs, hH, rs⟩ := R1.look e1
      exact ⟨.inl ⟨rfl, vs, SqL.of hH⟩, p, vs, rfl, rfl, hH, h2 _ _ _ F1 _ p1 (relPut R1 e1 .nil) (s1.trans (stpPut R1 e1)) .non⟩⟩
/-! stepping -/
section
variable {ds : DS} {ms m : MS} {P : D → MS → Prop} {de da db : DE} {di : DI} {g : DG} {tt : DT} {tk tv : DE} {vs : List Nat} {kvs : List (Str × Int)} {k : Str} {v : Int} {xs : List D} {a b : Int} {p : Addr} {d : D} {m' : MS}
def mDGet (x y : D) (m : MS) (P : D → MS → Prop) : Prop := match x, y with
  | .dct kvs, .str k => (match getD kvs k with
    | some v => P (.int v) m
    | none => False)
  | _, _ => False
def mStepL (a b : Int) (x : D) (m : MS) (P : D → MS → Prop) : Prop := match asL x m with
  | some xs => P (.lst (stepL xs a b)) m
  | none => False
theorem w_dc (h : ItG di ds ms fun xs m => compDD g tt tk tv (wipeD ds vs) xs [] m fun ys m' => P (.dct ys) m') : dDc di g tt tk tv vs ds ms P := h
theorem w_dget (h : ExG da ds ms fun x m1 => ExG db ds m1 fun y m2 => mDGet x y m2 P) : dDGet da db ds ms P := h
theorem w_mDGet (e : getD kvs k = some v) (h : P (.int v) m) : mDGet (.dct kvs) (.str k) m P := by unfold mDGet; simp only [e]; exact h
theorem w_inDct (h : P (.bl (getD kvs k).isSome) ms) : fInDct (.str k) (.dct kvs) ms P := by unfold fInDct fInDB; simpa using h
theorem w_notInDct (h : P (.bl (!(getD kvs k).isSome)) ms) : fNotInDct (.str k) (.dct kvs) ms P := by unfold fNotInDct fInDB; simpa using h
theorem w_stepL (h : ExG de ds ms fun x m => mStepL a b x m P) : dStepL a b de ds ms P := h
theorem w_mStepL (h : P (.lst (stepL xs a b)) m) : mStepL a b (.lst xs) m P := h
theorem w_clear (h : ExG de ds ms fun x m => mClear x m P) : dClear de ds ms P := h
theorem w_mClear (e : look m p = some xs) (e2 : put m p [] = m') (h : P .non m') : mClear (.opq (.ref p)) m P := ⟨p, xs, rfl, e, by rw [e2]; exact h⟩
theorem w_frzT (h : ExG de ds ms fun x m => mFrzT x m P) : dFrzT de ds ms P := h
theorem w_mFrzT (e : look m p = some xs) (e2 : drp m p = m') (h : P (.tup [d, .lst xs]) m') : mFrzT (.tup [d, .opq (.ref p)]) m P := ⟨d, p, xs, rfl, e, by rw [e2]; exact h⟩
end
end DL

namespace DL
open PySem PySem.Spec PyProof.Rows L2

/-! ### list(range(n)) -/
def dListR (da : DE) : DE := fun ds ms P => da ds ms fun d m => match d with
  | .int n => (0 ≤ n ∧ n ≤ 16777216) ∧ P (.lst (rng 0 n.toNat)) m
  | _ => False
theorem drs_rgV {K : PySem.W.Frag} {F : Hp} (n : Int) : DRs K F (rgV 0 n) (rng 0 n.toNat) := by
  unfold rgV rng
  rw [Int.sub_zero]
  have go : ∀ l : List Nat, DRs K F (l.map fun i => V.int (0 + (i : Nat))) (l.map fun i => D.int (0 + (i : Nat))) := fun l => by
    induction l with
    | nil => exact .nil
    | cons i r ih => exact .cons (.int _) ih
  exact go _
theorem pd_listR {X : Cx} {a : Expr} {da : DE} {p p2 pos pos2 : Pos} (hc : X.calm = true) (hl : Gl X "list") (ml : X.mg "list" = none) (hr : Gl X "range") (mr : X.mg "range" = none) (ha : PD X a da)
    (n1 : starEach [Expr.Call (.Name "range" p2) [a] [] pos2] X.env = (false, eval (Expr.Call (.Name "range" p2) [a] [] pos2) X.env) :: starEach [] X.env := by rfl) (n2 : starEach [a] X.env = (false, eval a X.env) :: starEach [] X.env := by rfl) :
    PD X (.Call (.Name "list" p) [.Call (.Name "range" p2) [a] [] pos2] [] pos) (dListR da) :=
  peImp (pe_listRg hc hl ml (prg_1 hr mr ha n2) n1) fun σ H Q ⟨F, ds, ms, P, R, S, h1, h2⟩ =>
    ⟨F, ds, ms, _, R, S, h1, fun d m v F1 H1 p1 R1 s1 r1 => by
      match d, r1, p1 with
      | .int n, .int _, p1 =>
        exact ⟨n, rfl, RgOk.of_le (Int.le_refl 0) p1.1.2 (by decide) p1.1.1, fun q hq => h2 _ m _ (upd F1 q (.lst (rgV 0 n))) _ p1.2 (R1.new hq) (s1.trans (Stp.new R1 hq)) (R1.newLst hq (drs_rgV n))⟩⟩
def mListR (d : D) (m : MS) (P : D → MS → Prop) : Prop := match d with
  | .int n => (0 ≤ n ∧ n ≤ 16777216) ∧ P (.lst (rng 0 n.toNat)) m
  | _ => False
theorem w_listR {da : DE} {ds : DS} {ms : MS} {P : D → MS → Prop} (h : ExG da ds ms fun x m => mListR x m P) : dListR da ds ms P := h
theorem w_mListR {n : Int} {m : MS} {P : D → MS → Prop} (e : 0 ≤ n ∧ n ≤ 16777216) (h : P (.lst (rng 0 n.toNat)) m) : mListR (.int n) m P := ⟨e, h⟩

/-! ### lists that are written to, lent to an expression that tells no list: all of them stand still meanwhile -/
mutual
inductive Der (ms : MS) : D → D → Prop
  | lst {xs ys : List D} : Ders ms xs ys → Der ms (.lst xs) (.lst ys)
  | tup {xs ys : List D} : Ders ms xs ys → Der ms (.tup xs) (.tup ys)
  | ref {p : Addr} {xs ys : List D} : look ms p = some xs → Ders ms xs ys → Der ms (.opq (.ref p)) (.lst ys)
  | same (d : D) : Der ms d d
inductive Ders (ms : MS) : List D → List D → Prop
  | nil : Ders ms [] []
  | cons {x y : D} {xs ys : List D} : Der ms x y → Ders ms xs ys → Ders ms (x :: xs) (y :: ys)
end
theorem Ders.same {ms : MS} : ∀ xs : List D, Ders ms xs xs
  | [] => .nil
  | x :: r => .cons (.same x) (Ders.same r)
/-- all that is known, with the lists that are written to as they stand now -/
def held (F H : Hp) (ms : MS) : Hp := fun b => if (look ms b).isSome then H b else F b
section
variable {K : PySem.W.Frag} {F H : Hp} {ms : MS}
theorem look_isSome {ms : MS} {p : Addr} {xs : List D} (h : (p, xs) ∈ ms) : (look ms p).isSome = true := by
  induction ms with
  | nil => cases h
  | cons q r ih =>
    obtain ⟨a, ys⟩ := q
    unfold look
    by_cases e : a = p
    · rw [if_pos e]; rfl
    · rw [if_neg e]
      refine ih ((List.mem_cons.mp h).resolve_left fun z => e ?_)
      exact (Prod.mk.inj z).1.symm
theorem held_sub (R : Rel K F H ms) : Sub F (held F H ms) := fun b o e => by
  unfold held
  cases z : look ms b with
  | none => exact e
  | some xs =>
    have := (R.mu _ (look_mem z)).1
    rw [show F b = none from this] at e
    cases e
theorem held_rel (R : Rel K F H ms) : Rel K (held F H ms) H [] := by
  refine ⟨fun b o e => ?_, fun p hp => (by cases hp), List.nodup_nil, R.one.mono (held_sub R)⟩
  unfold held at e
  split at e
  · exact e
  · exact R.sub b o e
theorem DR.held (R : Rel K F H ms) {d d' : D} (h : Der ms d d') : ∀ v, DR K F v d → DR K (DL.held F H ms) v d' := by
  refine Der.rec (motive_1 := fun d d' _ => ∀ v, DR K F v d → DR K (DL.held F H ms) v d') (motive_2 := fun ds ds' _ => ∀ vs, DRs K F vs ds → DRs K (DL.held F H ms) vs ds') ?_ ?_ ?_ ?_ ?_ ?_ h
  · intro xs ys _ ih v r
    cases r with
    | lst ha hs => exact .lst (held_sub R _ _ ha) (ih _ hs)
  · intro xs ys _ ih v r
    cases r with
    | tup ha hs => exact .tup ((held_sub R).sqT ha) (ih _ hs)
  · intro p xs ys e _ ih v r
    cases r
    obtain ⟨_, vs, hH, rs⟩ := R.look e
    refine .lst (xs := vs) ?_ (ih _ rs)
    show (if (look ms p).isSome then H p else F p) = _
    rw [e]; exact hH
  · intro d v r
    exact r.mono (held_sub R)
  · intro vs r
    cases r
    exact .nil
  · intro x y xs ys _ _ ih1 ih2 vs r
    cases r with
    | cons r s => exact .cons (ih1 _ r) (ih2 _ s)
end
/-- what is no thing of the heap -/
def imm : D → Bool
  | .non => true
  | .bl _ => true
  | .int _ => true
  | .str _ => true
  | _ => false
theorem DR.imm {K : PySem.W.Frag} {F F' : Hp} {v : V} {d : D} (h : imm d = true) (r : DR K F v d) : DR K F' v d := by
  cases d with
  | non => cases r; exact .non
  | bl b => cases r; exact .bl b
  | int i => cases r; exact .int i
  | str x => cases r; exact .str x
  | _ => cases h
/-- slot i's lists stand still while the expression is worked out -/
def dLend (i : Nat) (de : DE) : DE := fun ds ms P => ∃ d d', slot ds i = some d ∧ Der ms d d' ∧ de (setSlot ds i d') [] fun r _ => imm r = true ∧ P r ms
theorem lift_lend {K : PySem.W.Frag} {i : Nat} {de : DE} : ∀ σ H Q, lift K (dLend i de) σ H Q → lift K de σ H Q := by
  intro σ H Q hh
  obtain ⟨F, ds, ms, P, R, S, hl, h2⟩ := hh
  obtain ⟨d, d', e, hd, h1⟩ := hl
  obtain ⟨v, hv, hr⟩ := S.get e
  refine ⟨held F H ms, _, [], _, held_rel R, setSlot_σ (S.mono (held_sub R)) hv (DR.held R hd _ hr), h1, fun r m u F1 H1 p1 R1 s1 r1 => ?_⟩
  refine h2 r ms u F H1 p1.2 ⟨((held_sub R).trans s1.sub).trans R1.sub, fun p hp => ?_, R.nd, R.one⟩ ⟨Sub.refl F, fun a o k1 k2 k3 => ?_, fun _ _ z => .inl z, fun p hp => .inl ⟨p, hp, rfl⟩⟩ (r1.imm p1.1)
  · obtain ⟨z1, vs, z2, z3⟩ := R.mu p hp
    refine ⟨z1, vs, R1.sub _ _ (s1.sub _ _ ?_), z3⟩
    show (if (look ms p.1).isSome then H p.1 else F p.1) = _
    rw [look_isSome (xs := p.2) hp]; exact z2
  · refine s1.keep a o k1 ?_ fun p hp => (by cases hp)
    show (if (look ms a).isSome then H a else F a) = none
    cases z : look ms a with
    | none => exact k2
    | some xs => exact absurd rfl (k3 _ (look_mem z))
theorem pd_lend {X : Cx} {e : Expr} {de : DE} (i : Nat) (h : PD X e de) : PD X e (dLend i de) := peImp h lift_lend
theorem w_lend {i : Nat} {de : DE} {ds ds' : DS} {ms : MS} {P : D → MS → Prop} {d d' : D} (e : slot ds i = some d) (hd : Der ms d d') (e2 : setSlot ds i d' = ds') (h : ExG de ds' [] fun r _ => imm r = true ∧ P r ms) : dLend i de ds ms P := ⟨d, d', e, hd, by rw [e2]; exact h⟩

/-! ### [f, g][i](..), both may raise -/
def dPickZ (n : Nat) (is : List Nat) (fx1 fx2 : FX) (di : DE) (aa : DA) (Z : ZD) : DE := fun ds ms P => di ds ms fun d m =>
  (d = .int 0 ∧ aa ds m fun xs m1 => xs.length = n ∧ fx1 (pick is xs) m1 P fun c ns ys m' => Z c ns ys ds m') ∨
  (d = .int 1 ∧ aa ds m fun xs m1 => xs.length = n ∧ fx2 (pick is xs) m1 P fun c ns ys m' => Z c ns ys ds m')
section
variable {X : Cx} {W : WX} {Z : ZD} {k1 k2 n : Nat} {f1 f2 : Addr} {fd1 fd2 : FuncData} {ps1 ps2 : List Str} {is : List Nat} {fx1 fx2 : FX} {x1 x2 : Str} {p1 p2 q1 q2 pos : Pos} {i e : Expr} {es : List Expr} {aa : DA} {di : DE}
theorem pdz_pick2 (tk : Takes X W) (FF1 : FnX X.prog X.w X.K X.mg X.base k1 f1 fd1 ps1 (spX X.K fx1)) (F2 : FnX X.prog X.w X.K X.mg X.base k2 f2 fd2 ps2 (spX X.K fx2)) (hr1 : RoomG k1 X.A) (hr2 : RoomG k2 X.A) (hg1 : Gl X x1) (hm1 : X.mg x1 = some (.ref f1)) (hk1 : PySem.W.keepIn X.K (.ref f1) = true) (hb1 : Bnd X.K fd1 ps1 n [] is)
    (hg2 : Gl X x2) (hm2 : X.mg x2 = some (.ref f2)) (hk2 : PySem.W.keepIn X.K (.ref f2) = true) (hb2 : Bnd X.K fd2 ps2 n [] is)
    (hi : PD X i di) (ha : PDA X (e :: es) aa) (hs : PlainIx i := by exact fun _ _ => rfl) (hd1 : (x1 == ("__debug__" : Str)) = false := by decide) (hd2 : (x2 == ("__debug__" : Str)) = false := by decide)
    (he : starEach (e :: es) X.env = (false, eval e X.env) :: starEach es X.env := by rfl) (hpl : (backTo pos (starEach es X.env)).any (·.1) = false := by rfl)
    (hn1 : starEach [Expr.Name x1 p1, .Name x2 p2] X.env = (false, eval (.Name x1 p1) X.env) :: starEach [Expr.Name x2 p2] X.env := by rfl) (hn2 : starEach [Expr.Name x2 p2] X.env = (false, eval (.Name x2 p2) X.env) :: starEach [] X.env := by rfl) :
    PDZ X W Z (.Call (.Subscript (.List [.Name x1 p1, .Name x2 p2] q1) i q2) (e :: es) [] pos) (dPickZ n is fx1 fx2 di aa Z) := by
  have hc := pe_ix (X := X) (pos := q2) ix_seq (pe_lst (X := X) (pos := q1) (pda_cons (pd_glob (pos := p1) (d := .opq (.ref f1)) (v := .ref f1) hg1 hm1 rfl (fun _ => .opq _) hd1) (pda_cons (pd_glob (pos := p2) (d := .opq (.ref f2)) (v := .ref f2) hg2 hm2 rfl (fun _ => .opq _) hd2) pda_nil))) hi hs
  refine ⟨fun pins s σ H Q I h => ?_⟩
  obtain ⟨F, ds, ms, P, R, S, h1, h2, h3⟩ := h
  have start : ∀ {fx : FX} {f : Addr} {fd : FuncData} {ps : List Str} {k : Nat} {s1 : Shared} {H1 F1 : Hp} {m : MS}, FnX X.prog X.w X.K X.mg X.base k f fd ps (spX X.K fx) → RoomG k X.A → PySem.W.keepIn X.K (.ref f) = true → Bnd X.K fd ps n [] is → Inv X pins σ H1 s1 → Rel X.K F1 H1 m → Stp F H ms F1 H1 m →
      (aa ds m fun xs m1 => xs.length = n ∧ fx (pick is xs) m1 P fun c ns ys m' => Z c ns ys ds m') →
      wpAny (model X.prog X.w) X.A (callWith pos (.ref f) [] (backTo pos (starEach (e :: es) X.env)) []) (EP X pins σ Q) X.xe s1 := by
    intro fx f fd ps k s1 H1 F1 m FX hr hk hb I1 R1 s01 ha1
    have h' : liftA X.K aa σ H1 (fun vs H2 => vs.length = n ∧ spX X.K fx (pick is vs) H2 Q fun cv d H3 => W cv d σ H3) := by
      refine ⟨F1, ds, m, _, R1, S.mono s01.sub, ha1, fun xs m2 vs F2 H2 p R2 s2 rs => ⟨rs.length.trans p.1, F2, _, m2, P, _, R2, pick_drs rs is, p.2, fun d m3 v F3 H3 p3 R3 s3 r3 => ?_, fun c ns ys m3 cv d ws F3 H3 z R3 s3 hn hx hd => ?_⟩⟩
      · exact h2 d m3 v F3 H3 p3 R3 (s01.trans (s2.trans s3)) r3
      · exact h3 c ns ys m3 cv d ws F3 H3 z R3 (s01.trans (s2.trans s3)) hn hx hd
    refine PySem.W.callWith_K (h₀ := X.base) I1.ok.mod.kin hk (thn (ha.run pos pins s1 σ H1 _ I1 h') ?_) he hpl
    rintro us s2 ⟨vs, H2, I2, r, l, q⟩
    exact ⟨I2.kIn, run_x (ws := []) (zs := []) (ks := []) tk FX hr hb I2 r .nil l rfl (by rw [List.append_nil]; exact q)⟩
  have hq : tOp (rIx X.K) (tLst (liftA X.K (aCons (dC (.opq (.ref f1))) (aCons (dC (.opq (.ref f2))) aNil)))) (lift X.K di) σ H (fun x H1 => ∃ F1 m, Rel X.K F1 H1 m ∧ Stp F H ms F1 H1 m ∧
      ((x = .ref f1 ∧ aa ds m fun xs m1 => xs.length = n ∧ fx1 (pick is xs) m1 P fun c ns ys m' => Z c ns ys ds m') ∨ (x = .ref f2 ∧ aa ds m fun xs m1 => xs.length = n ∧ fx2 (pick is xs) m1 P fun c ns ys m' => Z c ns ys ds m'))) := by
    refine ⟨F, ds, ms, fun xs m => xs = [.opq (.ref f1), .opq (.ref f2)] ∧ m = ms, R, S, ⟨rfl, rfl⟩, ?_⟩
    rintro xs m vs F1 H1 ⟨rfl, rfl⟩ R1 s1 r1
    match vs, r1 with
    | [_, _], .cons (.opq _) (.cons (.opq _) .nil) =>
    refine ⟨(show 2 ≤ sizeLine by decide), fun p hp => ?_⟩
    refine ⟨_, ds, m, _, R1.new (o := .lst [.ref f1, .ref f2]) hp, S.mono (s1.trans (Stp.new R1 hp)).sub, h1, fun d m2 v F2 H2 p2 R2 s2 r2 => ?_⟩
    have hl : SqL X.K H2 p [.ref f1, .ref f2] := SqL.of (R2.sub _ _ (s2.sub _ _ upd_same))
    rcases p2 with ⟨rfl, p2⟩ | ⟨rfl, p2⟩
    · cases r2
      exact .inl ⟨p, _, 0, .ref f1, rfl, rfl, hl, rfl, F2, m2, R2, (s1.trans (Stp.new R1 hp)).trans s2, .inl ⟨rfl, p2⟩⟩
    · cases r2
      exact .inl ⟨p, _, 1, .ref f2, rfl, rfl, hl, rfl, F2, m2, R2, (s1.trans (Stp.new R1 hp)).trans s2, .inr ⟨rfl, p2⟩⟩
  show wpAny _ _ (do callWith pos (← eval (.Subscript (.List [.Name x1 p1, .Name x2 p2] q1) i q2) X.env) [] (backTo pos (starEach (e :: es) X.env)) (backToKw pos (keywordEach [] X.env))) _ _ _
  refine wpAny_bind (thn (hc.run pins s σ H _ I hq) ?_)
  rintro v s1 ⟨x, H1, I1, rv, F1, m, R1, s01, hh⟩
  rcases hh with ⟨rfl, hh⟩ | ⟨rfl, hh⟩
  · obtain rfl : v = .ref f1 := rv
    exact start FF1 hr1 hk1 hb1 I1 R1 s01 hh
  · obtain rfl : v = .ref f2 := rv
    exact start F2 hr2 hk2 hb2 I1 R1 s01 hh
end
def mPickZ (n : Nat) (is : List Nat) (fx1 fx2 : FX) (aa : DA) (Z : ZD) (ds : DS) (P : D → MS → Prop) (d : D) (m : MS) : Prop :=
  (d = .int 0 ∧ aa ds m fun xs m1 => xs.length = n ∧ fx1 (pick is xs) m1 P fun c ns ys m' => Z c ns ys ds m') ∨
  (d = .int 1 ∧ aa ds m fun xs m1 => xs.length = n ∧ fx2 (pick is xs) m1 P fun c ns ys m' => Z c ns ys ds m')
def mPickA (n : Nat) (is : List Nat) (fx : FX) (Z : ZD) (ds : DS) (P : D → MS → Prop) (xs : List D) (m : MS) : Prop := xs.length = n ∧ fx (pick is xs) m P fun c ns ys m' => Z c ns ys ds m'
theorem w_pickZ {n : Nat} {is : List Nat} {fx1 fx2 : FX} {di : DE} {aa : DA} {Z : ZD} {ds : DS} {ms : MS} {P : D → MS → Prop} (h : ExG di ds ms fun d m => mPickZ n is fx1 fx2 aa Z ds P d m) : dPickZ n is fx1 fx2 di aa Z ds ms P := h
theorem w_mPickZ0 {n : Nat} {is : List Nat} {fx1 fx2 : FX} {aa : DA} {Z : ZD} {ds : DS} {m : MS} {P : D → MS → Prop} (h : ArG aa ds m fun xs m1 => mPickA n is fx1 Z ds P xs m1) : mPickZ n is fx1 fx2 aa Z ds P (.int 0) m := .inl ⟨rfl, h⟩
theorem w_mPickZ1 {n : Nat} {is : List Nat} {fx1 fx2 : FX} {aa : DA} {Z : ZD} {ds : DS} {m : MS} {P : D → MS → Prop} (h : ArG aa ds m fun xs m1 => mPickA n is fx2 Z ds P xs m1) : mPickZ n is fx1 fx2 aa Z ds P (.int 1) m := .inr ⟨rfl, h⟩
theorem w_mPickA {n : Nat} {is : List Nat} {fx : FX} {Z : ZD} {ds : DS} {P : D → MS → Prop} {xs ys : List D} {m : MS} (e1 : xs.length = n) (e : pick is xs = ys) (h : fx ys m P fun c ns zs m' => Z c ns zs ds m') : mPickA n is fx Z ds P xs m := ⟨e1, by rw [e]; exact h⟩
end DL

namespace DL
open PySem PySem.Spec PyProof.Rows L2

/-! ### xs.index(v), ints -/
structure FirstAt (is : List Int) (v : Int) (j : Nat) : Prop where
  at_ : is[j]? = some v
  no : ∀ k, k < j → is[k]? ≠ some v
def dIndex (dx : DE) (aa : DA) : DE := fun ds ms P => dx ds ms fun x m1 => match x with
  | .lst a => aa ds m1 fun ys m2 => (match ys with
    | [y] => ∃ (is : List Int) (v : Int) (j : Nat), a = is.map D.int ∧ y = .int v ∧ FirstAt is v j ∧ P (.int (j : Int)) m2
    | _ => False)
  | _ => False
theorem drs_ints {K : PySem.W.Frag} {F : Hp} : ∀ (is : List Int) {vs : List V}, DRs K F vs (is.map D.int) → vs = is.map V.int
  | [], vs, h => by cases h; rfl
  | i :: r, vs, h => by
    cases h with
    | cons h1 h2 =>
      cases h1
      rw [drs_ints r h2]; rfl
section
variable {X : Cx} {o e : Expr} {dx : DE} {aa : DA} {apos cpos : Pos}
theorem pd_index (ho : PD X o dx) (ha : PDA X [e] aa)
    (hbase : attributeBase o "index" X.env (eval o X.env) = eval o X.env := by rfl)
    (hfew : ((backTo cpos (starEach [e] X.env)).all (fun x => !x.1) && (backToKw cpos (keywordEach [] X.env)).all (fun x => x.1.isSome) && decide ([e].length + ([] : List Keyword).length + (if ([] : List Keyword).isEmpty then 0 else 1) < 30)) = true := by rfl)
    (hline : (apos.endLine == cpos.line) = true := by rfl) (hs : starEach [e] X.env = (false, eval e X.env) :: starEach [] X.env := by rfl) (hplain : (backTo cpos (starEach [] X.env)).any (·.1) = false := by rfl) :
    PD X (.Call (.Attribute o "index" apos) [e] [] cpos) (dIndex dx aa) :=
  peImp (pe_bm PySem.F.plainAttrs_list PySem.F.slot_list_index PySem.F.type_list_index mt_index ho ha hbase hfew hline hs hplain) fun σ H Q ⟨F, ds, ms, P, R, S, h1, h2⟩ =>
    ⟨F, ds, ms, _, R, S, h1, fun x m1 v F1 H1 p1 R1 s1 r1 => by
      cases r1 with
      | lst hl hs =>
        rename_i l vs as
        refine ⟨.inl ⟨rfl, vs, SqL.of (R1.sub _ _ hl)⟩, F1, ds, m1, _, R1, S.mono s1.sub, p1, fun ys m2 ws F2 H2 p2 R2 s2 r2 => ?_⟩
        cases r2 with
        | nil => exact p2.elim
        | cons ry rr =>
          cases rr with
          | cons _ _ => exact p2.elim
          | nil =>
            obtain ⟨is, w, j, rfl, rfl, c, p3⟩ := p2
            cases ry
            obtain rfl := drs_ints is hs
            refine ⟨l, _, .int w, j, .int w, rfl, rfl, SqL.of (R2.sub _ _ (s2.sub _ _ hl)), rfl, ?_, ?_, ?_, fun k z hk hz => ?_, h2 _ m2 _ F2 H2 p3 R2 (s1.trans s2) (.int _)⟩
            · rw [List.all_eq_true]
              intro z hz
              obtain ⟨i, _, rfl⟩ := List.mem_map.mp hz
              rfl
            · rw [List.getElem?_map, c.at_]; rfl
            · show (w == w) = true
              exact beq_self_eq_true w
            · rw [List.getElem?_map] at hz
              cases e : is[k]? with
              | none => rw [e] at hz; cases hz
              | some i =>
                rw [e] at hz
                cases hz
                have := c.no k hk
                show (i == w) = false
                exact beq_eq_false_iff_ne.mpr fun z => this (by rw [e, z])
      | _ => exact p1.elim⟩
end
def mIndex (aa : DA) (ds : DS) (x : D) (m : MS) (P : D → MS → Prop) : Prop := match x with
  | .lst a => aa ds m fun ys m2 => (match ys with
    | [y] => ∃ (is : List Int) (v : Int) (j : Nat), a = is.map D.int ∧ y = .int v ∧ FirstAt is v j ∧ P (.int (j : Int)) m2
    | _ => False)
  | _ => False
def mIndexA (a : List D) (ys : List D) (m : MS) (P : D → MS → Prop) : Prop := match ys with
  | [y] => ∃ (is : List Int) (v : Int) (j : Nat), a = is.map D.int ∧ y = .int v ∧ FirstAt is v j ∧ P (.int (j : Int)) m
  | _ => False
theorem w_index {dx : DE} {aa : DA} {ds : DS} {ms : MS} {P : D → MS → Prop} (h : ExG dx ds ms fun x m => mIndex aa ds x m P) : dIndex dx aa ds ms P := h
theorem w_mIndex {aa : DA} {ds : DS} {a : List D} {m : MS} {P : D → MS → Prop} (h : ArG aa ds m fun ys m2 => mIndexA a ys m2 P) : mIndex aa ds (.lst a) m P := h
theorem w_mIndexA {a : List D} {is : List Int} {v : Int} {j : Nat} {m : MS} {P : D → MS → Prop} (e : a = is.map D.int) (c : FirstAt is v j) (h : P (.int (j : Int)) m) : mIndexA a [.int v] m P := ⟨is, v, j, e, rfl, c, h⟩
end DL

namespace DL
open PySem PySem.Spec PyProof.Rows L2

/-! ### a op b, either of which may raise -/
section
variable {X : Cx} {K : PySem.W.Frag} {W : WX} {Z : ZD} {da db : DE} {a b : Expr} {pos : Pos}
theorem liftZ_op {r : R2} {f : OF} (hf : OpD K r f) : ∀ σ H Q, liftZ K W Z (dOp f da db) σ H Q → tOp r (liftZ K W Z da) (liftZ K W Z db) σ H Q := by
  rintro σ H Q ⟨F, ds, ms, P, R, S, h, ok, no⟩
  refine ⟨F, ds, ms, _, R, S, h, fun x m1 v F1 H1 h R1 s1 rx => ?_, no⟩
  refine ⟨F1, ds, m1, _, R1, S.mono s1.sub, h, fun y m2 w F2 H2 h R2 s2 ry => ?_, fun c ns xs m2 cv d ws F2 H2 z R2 s2 => no c ns xs m2 cv d ws F2 H2 z R2 (s1.trans s2)⟩
  exact hf F2 H2 m2 v w x y P Q R2 (rx.mono s2.sub) ry h fun d m3 u F3 H3 h R3 s3 => ok d m3 u F3 H3 h R3 (s1.trans (s2.trans s3))
theorem pdz_cmp {op : CmpOp} {r : R2} {f : OF} (ho : OpR X (compareOp op) r) (hf : OpD X.K r f) (ha : PDZ X W Z a da) (hb : PDZ X W Z b db) (hm : behindInMarks op b = false := by first | exact nomark _ | rfl) :
    PDZ X W Z (.Compare a [op] [b] pos) (dOp f da db) := peImp (pe_cmpR ho ha hb hm) (liftZ_op hf)
theorem pdz_op {op : Operator} {r : R2} {f : OF} (ho : OpR X (binaryOp op) r) (hf : OpD X.K r f) (ha : PDZ X W Z a da) (hb : PDZ X W Z b db) : PDZ X W Z (.BinOp a op b pos) (dOp f da db) :=
  peImp (pe_op ho ha hb) (liftZ_op hf)
end
/-! ### n * xs -/
def rRepL : R2 := fun x y H Q => rRep y x H Q
theorem op_repL {X : Cx} : OpR X (binaryOp .Mult) rRepL := by
  rintro pins s σ H x y v u Q I rx ry ⟨l, n, xs, rfl, rfl, at_, lo, hi, few, q⟩
  obtain ⟨t, rfl⟩ := rx
  cases ry
  obtain ⟨_, its, c, vs, hl, here⟩ := I.lstM at_
  have few' : its.toArray.size * n.toNat ≤ sizeLine := by rw [List.size_toArray, ← hl]; exact few
  have cap : ¬ its.toArray.size * n.toNat > (2 ^ 63 - 1) / 8 := fun z => absurd (Nat.lt_of_lt_of_le z few') (by decide)
  have fit : ¬ (!Builtin.List.listFitsIndex n) = true := by rw [fitsIndex_both lo hi]; decide
  have long : ¬ Builtin.List.listTooLong (its.toArray.size * n.toNat) = true := by rw [notLongL few']; decide
  have whole : List.foldl (fun a b => a ++ b) #[] (List.replicate (if its.toArray.isEmpty = true then 0 else n.toNat) its.toArray) = (List.replicate n.toNat its).flatten.toArray := by
    have go : ∀ k : Nat, List.foldl (fun a b => a ++ b) #[] (List.replicate k its.toArray) = (List.replicate k its).flatten.toArray := fun k => by simpa using foldl_rep its k []
    rw [go]
    cases its
    · simp
    · rw [if_neg (by simp)]
  have twice : wpAny (model X.prog X.w) X.A (call (.builtin "list.__mul__") [.ref l, .int n t]) (EP X pins σ Q) X.xe s :=
    call_meets F.slot_list_mul ⟨_, here, rfl⟩ F.entry_list_mul (F.args_list_mul_2 (.ref l) (.int n t)) (AutoListH.list___mul___list_int_3 l its.toArray c n t fit cap long)
      ⟨here, by rw [whole]; exact ⟨.ref _, _, I.lnew (t' := s.toks) (vs.rep n.toNat) (by rw [PyProof.Rows.lm_len_rep_flat, Nat.mul_comm]; exact few), rfl, q _ I.fresh⟩⟩
  exact lm_binaryOp_repeat_right (by decide) (fun s2 => typeIs_int s2 n t) ⟨_, here, rfl⟩ F.fills_int_mul noFill_list_mul F.slot_int_mul lm_noRepeat_int repeat_list F.slot_int_index.lookup
    (call_meets F.slot_int_mul (typeIs_int s n t) F.entry_int_mul (F.args_int_mul_2 _ _) (int___mul___int_list n t l its.toArray c) ⟨here, rfl, ⟨_, here, rfl⟩, twice⟩)
def fMulL : OF := fun x y ms P => match x, y with
  | .int k, .lst a => (-(2 ^ 63) ≤ k ∧ k < 2 ^ 63 ∧ a.length * k.toNat ≤ sizeLine) ∧ P (.lst (List.replicate k.toNat a).flatten) ms
  | _, _ => False
theorem opd_mulL {K : PySem.W.Frag} : OpD K rRepL fMulL := by
  intro F H ms x y dx dy P Q R rx ry h q
  cases rx with
  | int k => cases ry with
    | lst h1 r1 =>
      obtain ⟨⟨lo, hi, few⟩, h⟩ := h
      exact ⟨_, k, _, rfl, rfl, R.sub _ _ h1, lo, hi, by rw [r1.length]; exact few, fun p new => q _ ms _ _ _ h (R.new new) (Stp.new R new) (R.newLst new (r1.rep _))⟩
    | _ => exact h.elim
  | _ => exact h.elim
theorem w_mulL {k : Int} {a : List D} {ms : MS} {P : D → MS → Prop} (h : (-(2 ^ 63) ≤ k ∧ k < 2 ^ 63 ∧ a.length * k.toNat ≤ sizeLine) ∧ P (.lst (List.replicate k.toNat a).flatten) ms) : fMulL (.int k) (.lst a) ms P := h
end DL

namespace DL
open PySem PySem.Spec PyProof.Rows L2

section
variable {P : Program} {w : World} {A : Around} {E : Value → Shared → Prop}
abbrev bornSet (w : World) : Obj := { cls := .type "set", dict := none, data := .set #[] 0 (.fresh 0 0 (!w.params.followText "set-order")) }
def Filled (w : World) (s : Shared) (ns : List Int) (s' : Shared) : Prop := ∃ h tk c, s' = { s with heap := h, toks := tk } ∧ SetR w h s.heap.objs.size (fun j => decide (j ∈ ns)) c ∧ c ≤ ns.length ∧ ∀ b o, s.heap.get? b = some o → h.get? b = some o
theorem out_two {a b c : Addr} (h : a ≠ b) (k : a ≠ c) : a ∉ [b, c] := fun z => by
  cases z with
  | head => exact h rfl
  | tail _ z => cases z with
    | head => exact k rfl
    | tail _ z => cases z
theorem set_fill {s : Shared} {l : Addr} {items : Array Value} {ns : List Int} (hh : A.handled = none) (hl : s.heap.IsList l items) (hi : IntsAre items.toList ns) (hb : ns.length + 1 < scanBound) :
    wpAny (model P w) A.in1 (Builtin.«set.__init__» ⟨[.ref s.heap.objs.size, .ref l], []⟩) (fun r s₂ => r = .done (.ret .none) ∧ Filled w s ns s₂) E { s with heap := s.heap.push (bornSet w) } := by
  have old : ∀ b o, s.heap.get? b = some o → (s.heap.push (bornSet w)).get? b = some o := fun b o e => Heap.get?_push_of_some _ e
  have new : (s.heap.push (bornSet w)).get? s.heap.objs.size = some (bornSet w) := Heap.get?_push_size _ rfl
  have hl2 : (s.heap.push (bornSet w)).IsList l items := hl.push _
  obtain ⟨ol, hol, hcl, nl, hdl⟩ := hl2
  obtain ⟨ocls, odict, odata, oslots⟩ := ol
  obtain rfl : ocls = .type "list" := hcl
  obtain rfl : odata = .seq items nl := hdl
  have hl1 : (s.heap.push (bornSet w)).IsList l items := ⟨_, hol, rfl, nl, rfl⟩
  have s1 := F.sub_list_set
  have s2 := F.sub_list_frozenset
  have s3 : (Value.type "list" == Value.type "dict") = false := by decide
  unfold Builtin.«set.__init__» noKeywords Builtin.Frozenset.updateFrom
  generalize hit : pyIter = it
  wp_walk
  subst hit
  have ol2 : l < (s.heap.push (bornSet w)).objs.size := Heap.lt_size hol
  have sz : (s.heap.push (bornSet w)).objs.size = s.heap.objs.size + 1 := Heap.size_push ..
  have ll : l < s.heap.objs.size := by obtain ⟨o, e, _⟩ := hl; exact Heap.lt_size e
  have lk : items.size = ns.length := by rw [← Array.length_toList]; exact IntsAre.length hi
  refine wpAny_pyIter_list hl1 (wpAny_bind (wpAny_runValue ?_))
  refine set_update_ints ((Walks.list (by simp [hh]) (s.heap.push (bornSet w)).objs.size l (Nat.ne_of_lt ol2) items).toS) s.heap.objs.size (out_two (sz ▸ Nat.ne_of_lt (Nat.lt_succ_self _)) (Nat.ne_of_gt ll)) ns lk hb (fun i v e => ?_) items.size 0 _ (Nat.sub_zero _) (Nat.zero_le _)
    ⟨⟨_, Heap.get?_push_size _ rfl, rfl, rfl⟩, hl1.push _⟩ ⟨0, Nat.le_refl 0, setR_new_at (Heap.get?_push_of_some _ new)⟩ fun s' c mv hc R => ?_
  · have hlt : i < ns.length := lk ▸ (Array.getElem?_eq_some_iff.mp e).1
    obtain ⟨t, q⟩ := IntsAre.int_at hi i v (by rw [Array.getElem?_toList]; exact e)
    exact ⟨ns[i], t, List.getElem?_eq_getElem hlt, by rw [q]; simp [hlt]⟩
  · refine wpAny_pure (wpAny_pure ⟨rfl, s'.heap, s'.toks, c, ?_, R, lk ▸ hc, fun b o e => ?_⟩)
    · obtain ⟨h', g', d', t', o'⟩ := s'
      obtain rfl : g' = s.gens := mv.gens
      obtain rfl : d' = s.drawn := mv.drawn
      obtain rfl : o' = s.os := mv.os
      rfl
    · have lb := Heap.lt_size e
      refine mv.heap b o ?_ (Heap.get?_push_of_some _ (old b o e))
      exact out_two (Nat.ne_of_lt lb) (sz ▸ Nat.ne_of_lt (Nat.lt_succ_of_lt lb))
theorem set_called {s : Shared} {l : Addr} {items : Array Value} {ns : List Int} {Q : Value → Shared → Prop} (hh : A.handled = none) (hl : s.heap.IsList l items) (hi : IntsAre items.toList ns) (hb : ns.length + 1 < scanBound)
    (q : ∀ s', Filled w s ns s' → Q (.ref s.heap.objs.size) s') : wpAny (model P w) A (call (.type "set") [.ref l]) Q E s := by
  have T := F.called_set
  obtain ⟨mc, mt, mro⟩ := T.mro
  have a1 := T.notType
  have a2 := T.canCreate
  have a3 := T.made
  have a4 := T.sub
  have a5 := F.typeCall_set_1 (.ref l)
  have new : (s.heap.push (bornSet w)).get? s.heap.objs.size = some (bornSet w) := Heap.get?_push_size _ rfl
  have ty : Shared.TypeIs { s with heap := s.heap.push (bornSet w) } (.ref s.heap.objs.size) "set" := ⟨_, new, rfl⟩
  have a6 := T.init.lookup
  have a7 := T.init.bind (.ref s.heap.objs.size)
  refine wpAny_call (codeAny_of_tree (wpAny_pure ⟨Code.quiet_builtin _ (by decide +kernel), codeAny_builtin F.entry_type_call ?_⟩))
  rw [Around.under_plain (weight_type_call_type "set" [.ref l] []) rfl]
  repeat (any_goals (first | assumption | wp_step))
  refine codeAny_mono (code_set_led1 (.ref l) (E := E) (Q₁ := fun v s1 => v = .ref s.heap.objs.size ∧ s1 = { s with heap := s.heap.push (bornSet w) }) ⟨rfl, rfl⟩) fun r s1 hr => ?_
  cases r with
  | error _ => exact hr
  | ok f => cases f with
    | ret v =>
      cases hr.1; cases hr.2
      repeat (any_goals (first | assumption | wp_step))
      refine codeAny_mono (codeAny_call_builtin (R := wants (fun v s2 => v = .none ∧ Filled w s ns s2) E) T.init.plain F.entry_set_init (check_set_init_1 ty ?_)) fun r2 s2 h2 => ?_
      · refine wpAny_mono (set_fill (A := A.in1) (by simp [hh]) hl hi hb) (fun f s2 h => ?_) fun _ _ x => x
        cases h.1
        exact ⟨rfl, h.2⟩
      · cases r2 with
        | error _ => exact h2
        | ok f => cases f with
          | ret v =>
            cases h2.1
            have z := q s2 h2.2
            repeat (any_goals (first | assumption | wp_step))
          | _ => exact h2.elim
    | _ => exact hr.elim
end
/-- set(xs) of a list of ints -/
def rSetL (K : PySem.W.Frag) (w : World) : List V → Hp → VK → Prop := fun vs H Q => ∃ (l : Addr) (is : List Int), vs = [V.ref l] ∧ SqL K H l (is.map V.int) ∧ is.length ≤ 60 ∧
  ∀ (p : Addr) (c : Nat), c ≤ is.length → H p = none → Q (.ref p) (upd H p (SetO w p (fun j => decide (j ∈ is)) c))
theorem cr_setL {X : Cx} (hc : X.calm = true) : CallR X (.type "set") (rSetL X.K X.w) := by
  intro pins s σ H vs us Q I rv h
  obtain ⟨l, is, rfl, hq, hl, q⟩ := h
  rw [Vals.ref1 rv]
  obtain ⟨its, ri, pl, _⟩ := I.list hq
  refine set_called (I.ok.hd hc) pl.isList (ns := is) (by simpa using intsAre_of ri) (Nat.lt_of_le_of_lt (Nat.succ_le_succ hl) (by unfold scanBound; decide)) fun s' z => ?_
  obtain ⟨h', tk, c, rfl, R, hc', keep⟩ := z
  exact ⟨.ref _, _, I.laid (t' := tk) keep (Nat.le_refl _) (setO_new R), rfl, q _ c hc' (I.hok.fresh (Nat.le_refl _))⟩
def dSortSet (da : DE) : DE := fun ds ms P => da ds ms fun d m => match d with
  | .lst xs => ∃ is : List Int, xs = is.map D.int ∧ is.length ≤ 60 ∧ ∀ js : List Int, js.Pairwise (· < ·) → (∀ k, k ∈ js ↔ k ∈ is) → P (.lst (js.map D.int)) m
  | _ => False
theorem pd_sortSet {X : Cx} {a : Expr} {da : DE} {p p2 q pos : Pos} (hc : X.calm = true) (hs : Gl X "sorted") (ms : X.mg "sorted" = none) (ht : Gl X "set") (mt : X.mg "set" = none) (ha : PD X a da)
    (n1 : starEach [Expr.Call (.Name "set" p2) [a] [] q] X.env = (false, eval (Expr.Call (.Name "set" p2) [a] [] q) X.env) :: starEach [] X.env := by rfl) (n2 : starEach [a] X.env = (false, eval a X.env) :: starEach [] X.env := by rfl) :
    PD X (.Call (.Name "sorted" p) [.Call (.Name "set" p2) [a] [] q] [] pos) (dSortSet da) := by
  have inner : PE X (.Call (.Name "set" p2) [a] [] q) (tCB (rSetL X.K X.w) (tCons (lift X.K da) tNil)) := pe_callTy (cr_setL hc) ht mt (by decide +kernel) (pa_cons ha pa_nil n2) (he := n2) (hpl := by rfl)
  refine peImp (pe_callB (cr_sortedSet hc) hs ms (by decide +kernel) (pa_cons inner pa_nil n1) (he := n1) (hpl := by rfl)) fun σ H Q ⟨F, ds, ms, P, R, S, h1, h2⟩ => ?_
  refine ⟨F, ds, ms, _, R, S, h1, fun d m v F1 H1 p1 R1 s1 r1 => ?_⟩
  match d, r1, p1 with
  | .lst xs, .lst hl hs', ⟨is, e, l60, p1⟩ =>
  subst e
  obtain rfl := drs_ints is hs'
  refine ⟨_, is, rfl, SqL.of (R1.sub _ _ hl), l60, fun b c hc' hb => ?_⟩
  refine ⟨b, _, c, rfl, upd_same, by omega, fun js b2 up mem _ hb2 => ?_⟩
  have ne : b2 ≠ b := fun z => by rw [z, upd_same] at hb2; cases hb2
  have hb2' : H1 b2 = none := by rw [upd_ne ne] at hb2; exact hb2
  have R2 := R1.lay (o := SetO X.w b (fun j => decide (j ∈ is)) c) hb
  have R3 := R2.new (o := .lst (js.map V.int)) hb2
  refine h2 _ m _ _ _ (p1 js up fun k => by rw [mem k]; simp) R3 (s1.trans ?_) (.lst upd_same (DRs.ints js))
  refine ⟨Sub.new (R1.sub.none hb2'), fun x o k1 k2 k3 => ?_, fun x o k => ?_, fun x hx => .inl ⟨x, hx, rfl⟩⟩
  · rw [upd_ne (ne_of_none (by rw [upd_ne (ne_of_none k1 hb)]; exact k1) hb2), upd_ne (ne_of_none k1 hb)]; exact k1
  · by_cases e : x = b2
    · subst e; exact .inr (.inl hb2')
    · rw [upd_ne e] at k; exact .inl k
def mSortSet (d : D) (m : MS) (P : D → MS → Prop) : Prop := match d with
  | .lst xs => ∃ is : List Int, xs = is.map D.int ∧ is.length ≤ 60 ∧ ∀ js : List Int, js.Pairwise (· < ·) → (∀ k, k ∈ js ↔ k ∈ is) → P (.lst (js.map D.int)) m
  | _ => False
theorem same_rising : ∀ {as bs : List Int}, as.Pairwise (· < ·) → bs.Pairwise (· < ·) → (∀ k, k ∈ as ↔ k ∈ bs) → as = bs
  | [], [], _, _, _ => rfl
  | [], b :: _, _, _, h => absurd ((h b).mpr List.mem_cons_self) List.not_mem_nil
  | a :: _, [], _, _, h => absurd ((h a).mp List.mem_cons_self) List.not_mem_nil
  | a :: r, b :: t, h1, h2, h => by
    have u1 := List.pairwise_cons.mp h1
    have u2 := List.pairwise_cons.mp h2
    have e : a = b := by
      have x := List.mem_cons.mp ((h a).mp List.mem_cons_self)
      have y := List.mem_cons.mp ((h b).mpr List.mem_cons_self)
      cases x with
      | inl x => exact x
      | inr x => cases y with
        | inl y => exact y.symm
        | inr y => exact absurd (Int.lt_trans (u1.1 b y) (u2.1 a x)) (Int.lt_irrefl a)
    subst e
    rw [same_rising u1.2 u2.2 fun k => ?_]
    constructor
    · intro m
      exact (List.mem_cons.mp ((h k).mp (List.mem_cons_of_mem _ m))).resolve_left fun z => Int.lt_irrefl a (by have := u1.1 k m; rwa [z] at this)
    · intro m
      exact (List.mem_cons.mp ((h k).mpr (List.mem_cons_of_mem _ m))).resolve_left fun z => Int.lt_irrefl a (by have := u2.1 k m; rwa [z] at this)
theorem w_mSortSet {xs : List D} {is : List Int} {m : MS} {P : D → MS → Prop} (e : xs = is.map D.int) (l : is.length ≤ 60) (u : is.Pairwise (· < ·)) (h : P (.lst xs) m) : mSortSet (.lst xs) m P :=
  ⟨is, e, l, fun js hj hm => by rw [same_rising hj u hm, ← e]; exact h⟩
theorem w_sortSet {da : DE} {ds : DS} {ms : MS} {P : D → MS → Prop} (h : ExG da ds ms fun d m => mSortSet d m P) : dSortSet da ds ms P := h
end DL

namespace DL
open PySem PySem.Spec PyProof.Rows L2

/-! ### xs[::-1] -/
def mRevL (x : D) (m : MS) (P : D → MS → Prop) : Prop := match asL x m with
  | some xs => P (.lst xs.reverse) m
  | none => False
def dRevL (de : DE) : DE := fun ds ms P => de ds ms fun x m => mRevL x m P
theorem DRs.rev {K : PySem.W.Frag} {F : Hp} : ∀ {vs : List V} {us : List D}, DRs K F vs us → DRs K F vs.reverse us.reverse
  | _, _, .nil => .nil
  | _, _, .cons h t => by
    rw [List.reverse_cons, List.reverse_cons]
    exact t.rev.append (.cons h .nil)
theorem pd_revL {X : Cx} {e : Expr} {de : DE} {k : Nat} {p1 p2 p3 pos : Pos} (h : PD X e de) : PD X (.Subscript e (.Slice none none (some (.UnaryOp .USub (.Constant (.int 1) k p1) p2)) p3) pos) (dRevL de) :=
  peImp (pe_revL h) fun σ H Q ⟨F, ds, ms, P, R, S, h1, h2⟩ => ⟨F, ds, ms, _, R, S, h1, fun x m v F1 H1 p1 R1 s1 r1 => by
    unfold mRevL at p1
    cases e1 : asL x m with
    | none => rw [e1] at p1; exact p1.elim
    | some xs =>
      rw [e1] at p1
      obtain ⟨a, ws, rfl, z1, z2⟩ := R1.asL r1 e1
      exact ⟨a, ws, rfl, z1, fun p hp2 => h2 _ m _ _ _ p1 (R1.new hp2) (s1.trans (Stp.new R1 hp2)) (R1.newLst hp2 z2.rev)⟩⟩
section
variable {ds : DS} {ms m : MS} {P : D → MS → Prop} {de : DE} {xs : List D}
theorem w_revL (h : ExG de ds ms fun x m => mRevL x m P) : dRevL de ds ms P := h
theorem w_mRevL (h : P (.lst xs.reverse) m) : mRevL (.lst xs) m P := h
end
/-- what keeps no promise (the call of itself where it is not needed) -/
def noFS : FS := fun _ _ _ => False
theorem FnG.none {P : Program} {w : World} {K : PySem.W.Frag} {mg : Str → Option Value} {base : Heap} {k : Nat} {f : Addr} {fd : FuncData} {ps : List Str} : FnG P w K mg base k f fd ps (spD K noFS) :=
  ⟨fun _ _ _ _ ⟨_, _, _, _, _, _, h, _⟩ => h.elim, fun _ _ _ _ _ _ _ _ _ _ _ _ ⟨_, _, _, _, _, _, h, _⟩ => h.elim⟩
/-- a comparison while a list that is written to is lent -/
theorem pdt_cmpL {X : Cx} {a b : Expr} {da db : DE} {pos : Pos} {i : Nat} {op : CmpOp} {r : R2} {f : OF} (ho : OpR X (compareOp op) r) (hf : OpD X.K r f) (ha : PD X a da) (hb : PD X b db) (hm : behindInMarks op b = false := by first | exact nomark _ | rfl) : PDT X (.Compare a [op] [b] pos) (dTest (dLoan i (dOp f da db))) := by
  refine ptImp (pt_cmpR ho ha hb hm) fun σ H Q h => ?_
  obtain ⟨F, ds, ms, P, R, S, h1, h2⟩ := h
  refine lift_op hf σ H _ (lift_loan σ H _ ⟨F, ds, ms, _, R, S, h1, fun d m v F1 H1 p1 R1 s1 r1 => ?_⟩)
  cases d with
  | bl b => cases r1; exact ⟨b, rfl, h2 b m F1 H1 p1 R1 s1⟩
  | _ => exact p1.elim
end DL

namespace DL
open PySem PySem.Spec PyProof.Rows L2

/-! ### lists in lists that are all written to, seen as if they were made fast -/
mutual
inductive Vw (L : MS) : D → D → Prop
  | same {d : D} : Vw L d d
  | tup {xs ys : List D} : VwS L xs ys → Vw L (.tup xs) (.tup ys)
  | lst {p : Addr} {xs ys : List D} : (p, xs) ∈ L → VwS L xs ys → Vw L (.opq (.ref p)) (.lst ys)
inductive VwS (L : MS) : List D → List D → Prop
  | nil : VwS L [] []
  | cons {x y : D} {xs ys : List D} : Vw L x y → VwS L xs ys → VwS L (x :: xs) (y :: ys)
end
theorem VwS.same {L : MS} : ∀ xs : List D, VwS L xs xs
  | [] => .nil
  | _ :: r => .cons .same (VwS.same r)
theorem VwS.app {L : MS} : ∀ {xs ys us vs : List D}, VwS L xs ys → VwS L us vs → VwS L (xs ++ us) (ys ++ vs)
  | [], [], _, _, .nil, h => h
  | _ :: _, _ :: _, _, _, .cons a r, h => .cons a (VwS.app r h)
open Classical in
/-- the lent lists too -/
noncomputable def lent (L : MS) (F H : Hp) : Hp := fun b => if ∃ q ∈ L, q.1 = b then H b else F b
open Classical in
/-- without them -/
noncomputable def back (L : MS) (F : Hp) : Hp := fun b => if ∃ q ∈ L, q.1 = b then none else F b
section
variable {K : PySem.W.Frag} {F H : Hp} {L ms0 : MS}
theorem lent_in {b : Addr} (h : ∃ q ∈ L, q.1 = b) : lent L F H b = H b := if_pos h
theorem lent_out {b : Addr} (h : ¬ ∃ q ∈ L, q.1 = b) : lent L F H b = F b := if_neg h
theorem back_in {b : Addr} (h : ∃ q ∈ L, q.1 = b) : back L F b = none := if_pos h
theorem back_out {b : Addr} (h : ¬ ∃ q ∈ L, q.1 = b) : back L F b = F b := if_neg h
theorem none_in (R : Rel K F H (L ++ ms0)) {b : Addr} (h : ∃ q ∈ L, q.1 = b) : F b = none := by
  obtain ⟨q, hq, rfl⟩ := h
  exact (R.mu q (List.mem_append_left _ hq)).1
theorem lent_sub (R : Rel K F H (L ++ ms0)) : Sub F (lent L F H) := fun b o e => by
  by_cases h : ∃ q ∈ L, q.1 = b
  · rw [none_in R h] at e; cases e
  · rw [lent_out h]; exact e
mutual
theorem DR.vw (R : Rel K F H (L ++ ms0)) : ∀ {d d' : D}, Vw L d d' → ∀ {v : V}, DR K F v d → DR K (lent L F H) v d'
  | _, _, .same, _, r => r.mono (lent_sub R)
  | _, _, .tup hs, _, r => by
    cases r with
    | tup hq rs => exact .tup ((lent_sub R).sqT hq) (DRs.vw R hs rs)
  | _, _, .lst (p := p) hm hs, _, r => by
    cases r
    obtain ⟨_, vs, h2, h3⟩ := R.mu _ (List.mem_append_left _ hm)
    exact .lst (by rw [lent_in ⟨_, hm, rfl⟩]; exact h2) (DRs.vw R hs h3)
theorem DRs.vw (R : Rel K F H (L ++ ms0)) : ∀ {ds ds' : List D}, VwS L ds ds' → ∀ {vs : List V}, DRs K F vs ds → DRs K (lent L F H) vs ds'
  | _, _, .nil, _, r => by cases r; exact .nil
  | _, _, .cons h hs, _, r => by
    cases r with
    | cons r1 r2 => exact .cons (DR.vw R h r1) (DRs.vw R hs r2)
end
theorem out_of (R : Rel K F H (L ++ ms0)) {q : Addr × List D} (hq : q ∈ ms0) : ¬ ∃ r ∈ L, r.1 = q.1 := by
  rintro ⟨r, hr, e⟩
  have nd := R.nd
  rw [List.map_append] at nd
  exact (List.nodup_append.mp nd).2.2 _ (List.mem_map_of_mem hr) _ (List.mem_map_of_mem hq) e
theorem relLent (R : Rel K F H (L ++ ms0)) : Rel K (lent L F H) H ms0 ∧ Stp F H (L ++ ms0) (lent L F H) H ms0 := by
  refine ⟨⟨fun b o e => ?_, fun q hq => ?_, ?_, R.one.mono (lent_sub R)⟩, ⟨lent_sub R, fun _ _ h _ _ => h, fun a o e => ?_, fun q hq => .inl ⟨q, List.mem_append_right _ hq, rfl⟩⟩⟩
  · by_cases h : ∃ q ∈ L, q.1 = b
    · rw [lent_in h] at e; exact e
    · rw [lent_out h] at e; exact R.sub b o e
  · obtain ⟨h1, vs, h2, h3⟩ := R.mu q (List.mem_append_right _ hq)
    exact ⟨by rw [lent_out (out_of R hq)]; exact h1, vs, h2, h3.mono (lent_sub R)⟩
  · have nd := R.nd
    rw [List.map_append] at nd
    exact (List.nodup_append.mp nd).2.1
  · by_cases h : ∃ q ∈ L, q.1 = a
    · obtain ⟨q, hq, e2⟩ := h
      exact .inr (.inr ⟨q, List.mem_append_left _ hq, e2⟩)
    · rw [lent_out h] at e; exact .inl e
theorem relBack {F2 H2 : Hp} {m : MS} {v : V} {d : D} (R : Rel K F H (L ++ ms0)) (R2 : Rel K F2 H2 m) (s2 : Stp (lent L F H) H ms0 F2 H2 m) (fd : flat d = true) (fm : flatM m) (r2 : DR K F2 v d) :
    Rel K (back L F2) H2 (L ++ m) ∧ Stp F H (L ++ ms0) (back L F2) H2 (L ++ m) ∧ DR K (back L F2) v d := by
  have at_ : ∀ q ∈ L, ∃ vs, F2 q.1 = some (.lst vs) ∧ DRs K F vs q.2 := fun q hq => by
    obtain ⟨_, vs, h2, h3⟩ := R.mu q (List.mem_append_left _ hq)
    exact ⟨vs, s2.sub q.1 _ (by rw [lent_in ⟨q, hq, rfl⟩]; exact h2), h3⟩
  have sub3 : Sub F (back L F2) := fun b o hb => by
    by_cases h : ∃ q ∈ L, q.1 = b
    · rw [none_in R h] at hb; cases hb
    · rw [back_out h]
      exact s2.sub b o (by rw [lent_out h]; exact hb)
  have keepT : ∀ b u, F2 b = some u → (∀ vs, u ≠ .lst vs) → back L F2 b = some u := fun b u hb nl => by
    by_cases h : ∃ q ∈ L, q.1 = b
    · obtain ⟨q, hq, rfl⟩ := h
      obtain ⟨vs, e, _⟩ := at_ q hq
      rw [e] at hb
      cases hb
      exact absurd rfl (nl vs)
    · rw [back_out h]; exact hb
  have ee : ∀ b ws, (F2 b = some (.tup ws) → back L F2 b = some (.tup ws)) ∧ ∀ o, F2 b = some (.frz o (.tup ws)) → back L F2 b = some (.frz o (.tup ws)) :=
    fun b ws => ⟨fun hb => keepT b _ hb (fun vs z => by cases z), fun o hb => keepT b _ hb (fun vs z => by cases z)⟩
  refine ⟨⟨fun b o hb => ?_, fun q hq => ?_, ?_, R.one.mono sub3⟩, ⟨sub3, fun a o k1 k2 k3 => ?_, fun a o k1 => ?_, fun q hq => ?_⟩, r2.flat ee fd⟩
  · by_cases h : ∃ q ∈ L, q.1 = b
    · rw [back_in h] at hb; cases hb
    · rw [back_out h] at hb; exact R2.sub b o hb
  · rcases List.mem_append.mp hq with hq | hq
    · obtain ⟨vs, e, rs⟩ := at_ q hq
      exact ⟨back_in ⟨q, hq, rfl⟩, vs, R2.sub _ _ e, rs.mono sub3⟩
    · obtain ⟨y1, us, y2, y3⟩ := R2.mu q hq
      refine ⟨?_, us, y2, y3.flat ee (fm q hq)⟩
      by_cases h : ∃ r ∈ L, r.1 = q.1
      · exact back_in h
      · rw [back_out h]; exact y1
  · rw [List.map_append, List.nodup_append]
    have nd := R.nd
    rw [List.map_append] at nd
    refine ⟨(List.nodup_append.mp nd).1, R2.nd, fun a ha b hb e => ?_⟩
    obtain ⟨q, hq, rfl⟩ := List.mem_map.mp ha
    obtain ⟨r, hr, rfl⟩ := List.mem_map.mp hb
    obtain ⟨vs, e1, _⟩ := at_ q hq
    obtain ⟨y1, _⟩ := R2.mu r hr
    rw [e, y1] at e1
    cases e1
  · have hn : ¬ ∃ q ∈ L, q.1 = a := fun ⟨q, hq, z⟩ => k3 q (List.mem_append_left _ hq) z
    exact s2.keep a o k1 (by rw [lent_out hn]; exact k2) fun q hq => k3 q (List.mem_append_right _ hq)
  · by_cases h : ∃ q ∈ L, q.1 = a
    · rw [back_in h] at k1; cases k1
    · rw [back_out h] at k1
      rcases s2.newF a o k1 with z | z | ⟨q, hq, z⟩
      · rw [lent_out h] at z; exact .inl z
      · exact .inr (.inl z)
      · exact .inr (.inr ⟨q, List.mem_append_right _ hq, z⟩)
  · rcases List.mem_append.mp hq with hq | hq
    · exact .inl ⟨q, List.mem_append_left _ hq, rfl⟩
    · rcases s2.newM q hq with ⟨q2, hq2, z⟩ | z | ⟨o, z⟩
      · exact .inl ⟨q2, List.mem_append_right _ hq2, z⟩
      · exact .inr (.inl z)
      · by_cases h : ∃ r ∈ L, r.1 = q.1
        · obtain ⟨r, hr, e⟩ := h
          exact .inl ⟨r, List.mem_append_left _ hr, e⟩
        · rw [lent_out h] at z; exact .inr (.inr ⟨o, z⟩)
end
/-- a slot's lists are lent to an expression that tells flat data -/
def dView (i : Nat) (de : DE) : DE := fun ds ms P => ∃ (L ms0 : MS) (d d' : D), ms = L ++ ms0 ∧ slot ds i = some d ∧ Vw L d d' ∧ de (setSlot ds i d') ms0 fun r m => flat r = true ∧ flatM m ∧ P r (L ++ m)
theorem lift_view {K : PySem.W.Frag} {i : Nat} {de : DE} : ∀ σ H Q, lift K (dView i de) σ H Q → lift K de σ H Q := fun σ H Q ⟨F, ds, ms, P, R, S, h1, h2⟩ => by
  obtain ⟨L, ms0, d, d', rfl, e, vw, h1⟩ := h1
  obtain ⟨v, hv, hr⟩ := S.get e
  obtain ⟨R1, s1⟩ := relLent R
  refine ⟨_, _, _, _, R1, setSlot_σ (S.mono s1.sub) hv (hr.vw R vw), h1, fun r m u F2 H2 hp R2 s2 r2 => ?_⟩
  obtain ⟨fd, fm, hp⟩ := hp
  obtain ⟨R3, s3, r3⟩ := relBack R R2 s2 fd fm r2
  exact h2 r (L ++ m) u _ H2 hp R3 s3 r3
theorem pd_view {X : Cx} {e : Expr} {de : DE} {i : Nat} (h : PD X e de) : PD X e (dView i de) := peImp h lift_view
theorem pdt_cmpV {X : Cx} {a b : Expr} {da db : DE} {pos : Pos} {i : Nat} {op : CmpOp} {r : R2} {f : OF} (ho : OpR X (compareOp op) r) (hf : OpD X.K r f) (ha : PD X a da) (hb : PD X b db) (hm : behindInMarks op b = false := by first | exact nomark _ | rfl) : PDT X (.Compare a [op] [b] pos) (dTest (dView i (dOp f da db))) := by
  refine ptImp (pt_cmpR ho ha hb hm) fun σ H Q h => ?_
  obtain ⟨F, ds, ms, P, R, S, h1, h2⟩ := h
  refine lift_op hf σ H _ (lift_view σ H _ ⟨F, ds, ms, _, R, S, h1, fun d m v F1 H1 p1 R1 s1 r1 => ?_⟩)
  cases d with
  | bl b => cases r1; exact ⟨b, rfl, h2 b m F1 H1 p1 R1 s1⟩
  | _ => exact p1.elim
theorem w_view {i : Nat} {de : DE} {ds ds' : DS} {ms : MS} {P : D → MS → Prop} (L ms0 : MS) {d d' : D} (e : ms = L ++ ms0) (e1 : slot ds i = some d) (vw : Vw L d d') (e2 : setSlot ds i d' = ds') (h : ExG de ds' ms0 fun r m => flat r = true ∧ flatM m ∧ P r (L ++ m)) : dView i de ds ms P :=
  ⟨L, ms0, d, d', e, e1, vw, by rw [e2]; exact h⟩
/-- ahead of a statement a slot's lists are made fast -/
def dViewS (i : Nat) (t : DTS) : DTS := fun E ds ms => ∃ (L ms0 : MS) (d d' : D), ms = L ++ ms0 ∧ slot ds i = some d ∧ Vw L d d' ∧ t E (setSlot ds i d') ms0
theorem liftS_view {K : PySem.W.Frag} {t : DTS} {i : Nat} : ∀ D σ H, liftS K (dViewS i t) D σ H → liftS K t D σ H := fun D σ H ⟨F, ds, ms, E, R, S, h, n, r, k, q⟩ => by
  obtain ⟨L, ms0, d, d', rfl, e, vw, h⟩ := h
  obtain ⟨v, hv, hr⟩ := S.get e
  obtain ⟨z1, z2⟩ := relLent R
  exact ⟨_, _, _, E, z1, setSlot_σ (S.mono z2.sub) hv (hr.vw R vw), h, fun ds' m' σ' F' H' h' R' s' S' => n ds' m' σ' F' H' h' R' (z2.trans s') S', fun d m' v' F' H' h' R' s' r' => r d m' v' F' H' h' R' (z2.trans s') r',
    fun ds' m' σ' F' H' h' R' s' S' => k ds' m' σ' F' H' h' R' (z2.trans s') S', fun ds' m' σ' F' H' h' R' s' S' => q ds' m' σ' F' H' h' R' (z2.trans s') S'⟩
theorem pds_view {X : Cx} {st : Stmt} {t : DTS} {i : Nat} (h : PDS X st t) : PDS X st (dViewS i t) := psImp h liftS_view
theorem w_viewS {t : DTS} {E : EN} {ds ds' : DS} {ms : MS} {i : Nat} (L ms0 : MS) {d d' : D} (e : ms = L ++ ms0) (e1 : slot ds i = some d) (vw : Vw L d d') (e2 : setSlot ds i d' = ds') (h : StG t E ds' ms0) : dViewS i t E ds ms :=
  ⟨L, ms0, d, d', e, e1, vw, by rw [e2]; exact h⟩
/-- what an expression tells is made fast, its lists too -/
def dViewE (de : DE) : DE := fun ds ms P => de ds ms fun d m => ∃ (L ms0 : MS) (d' : D), m = L ++ ms0 ∧ Vw L d d' ∧ P d' ms0
theorem pd_viewE {X : Cx} {e : Expr} {de : DE} (h : PD X e de) : PD X e (dViewE de) := peImp h fun σ H Q ⟨F, ds, ms, P, R, S, h1, h2⟩ =>
  ⟨F, ds, ms, _, R, S, h1, fun d m v F1 H1 p1 R1 s1 r1 => by
    obtain ⟨L, ms0, d', rfl, vw, p1⟩ := p1
    obtain ⟨z1, z2⟩ := relLent R1
    exact h2 d' ms0 v _ _ p1 z1 (s1.trans z2) (r1.vw R1 vw)⟩
theorem w_viewE {de : DE} {ds : DS} {ms : MS} {P : D → MS → Prop} (h : ExG de ds ms fun d m => ∃ (L ms0 : MS) (d' : D), m = L ++ ms0 ∧ Vw L d d' ∧ P d' ms0) : dViewE de ds ms P := h
end DL

namespace Pf
open PySem PySem.Spec PyProof.Rows L2 DL
local macro_rules | `(tactic| walk_at "dl") => `(tactic| simp only [dSeq, dWhile, dTest, dOp, dVar, dC, dPar, dRet, dRetN, dCB, dAsg, dIfS, dNext, dTup, dLst, dLstM, dCall, dNeg, dSetIx, dDrop, dAnd, dOr, dNot, dAndV, dOrV, dNotV, dIf, dFor, dLc, dSl, dIsi, dYes, dTru, truD, dAppend, dFrz,
  aNil, aCons, oNone, oSome, sName, sTup, sCons, sNil, iRange1, iRange2, iSeq, iTupD, iZipD, iEnumD, slot, setSlot, startD, List.length_nil, List.length_cons, Nat.reduceAdd, List.append_nil, List.cons_append, List.nil_append, pick, List.filterMap_cons, List.filterMap_nil, List.getElem?_cons_zero, List.getElem?_cons_succ,
  fI, fAdd, fSub, fMul, fDiv, fMod, fPow, fLt, fLe, fGt, fGe, fEq, fNe, cAbs, cMax2, cMin2, cInt1, cLen, cRepr, true_and, and_true, decide_eq_true_eq, if_true, dDoX, dRaise, dRaiseI, dExprZ, dRetZ, dAsgZ, dCallZ, dTry0, dTry, dIsE, dFld, dEdic, EN.lp, EN.wn, EN.wx])
theorem shI (i : Int) : ShD (.int i) := ⟨_, rfl, rfl⟩
theorem shS (x : Str) (h : x.cps.all (· < 0x110000) = true) : ShD (.str x) := ⟨_, rfl, by
  show (x.cps.all (· < 0x110000) && true) = true
  rw [h]; rfl⟩
theorem t9 : (10 : Int) ^ Int.toNat 9 = 1000000000 := by decide +kernel
theorem t6 : (10 : Int) ^ Int.toNat 6 = 1000000 := by decide +kernel
theorem t18 : (10 : Int) ^ Int.toNat 18 = 1000000000000000000 := by decide +kernel
theorem t30 : (10 : Int) ^ Int.toNat 30 = 1000000000000000000000000000000 := by decide +kernel
theorem t39 : (10 : Int) ^ Int.toNat 39 = 1000000000000000000000000000000000000000 := by decide +kernel
theorem t56 : (10 : Int) ^ Int.toNat 56 = 100000000000000000000000000000000000000000000000000000000 := by decide +kernel
theorem t60 : (10 : Int) ^ Int.toNat 60 = 1000000000000000000000000000000000000000000000000000000000000 := by decide +kernel
theorem t40 : (10 : Int) ^ Int.toNat 40 = 10000000000000000000000000000000000000000 := by decide +kernel
theorem t50 : (10 : Int) ^ Int.toNat 50 = 100000000000000000000000000000000000000000000000000 := by decide +kernel
theorem t59 : (10 : Int) ^ Int.toNat 59 = 100000000000000000000000000000000000000000000000000000000000 := by decide +kernel
theorem t58 : (10 : Int) ^ Int.toNat 58 = 10000000000000000000000000000000000000000000000000000000000 := by decide +kernel
theorem eqI (i j : Int) : eqD (.int i) (.int j) = (i == j) := rfl
theorem eqS (x y : Str) : eqD (.str x) (.str y) = (x == y) := rfl
/-! the greatest common divisor, as both loops find it -/
theorem gcd_fmod (a b : Int) : Int.gcd b (a.fmod b) = Int.gcd a b := by
  have h : a.fmod b = a - b * a.fdiv b := by
    have := Int.mul_fdiv_add_fmod a b
    omega
  rw [h, Int.gcd_comm a b, Int.sub_eq_add_neg, ← Int.mul_neg, Int.gcd_add_mul_left_right]
theorem fmod_less {a b : Int} (h : b ≠ 0) : (a.fmod b).natAbs < b.natAbs := by
  have h1 := Int.emod_nonneg a h
  have h2 := Int.emod_lt a h
  rw [Int.fmod_eq_emod]
  split
  · rename_i hc
    omega
  · rename_i hc
    have hb : ¬ b ∣ a := fun z => hc (.inr z)
    have hb2 : ¬ 0 ≤ b := fun z => hc (.inl z)
    have h3 : a % b ≠ 0 := fun z => hb (Int.dvd_of_emod_eq_zero z)
    omega
/-- a fraction in lowest terms -/
def sgcd (a b : Int) : Int := if b < 0 then -(Int.gcd a b : Int) else Int.gcd a b
def lowT (a b : Int) : Int × Int := (a.fdiv (sgcd a b), b.fdiv (sgcd a b))
def fr (p : Int × Int) : D := .tup [.int p.1, .int p.2]
def addT (p q : Int × Int) : Int × Int := lowT (p.1 * q.2 + q.1 * p.2) (p.2 * q.2)
def mulT (p q : Int × Int) : Int × Int := lowT (p.1 * q.1) (p.2 * q.2)
def Bd (n : Nat) (x : Int) : Prop := x.natAbs < 2 ^ n
theorem Bd.mono {n m : Nat} {x : Int} (h : Bd n x) (hm : n ≤ m) : Bd m x := Nat.lt_of_lt_of_le h (Nat.pow_le_pow_right (by decide) hm)
theorem Bd.mul {n m : Nat} {x y : Int} (h : Bd n x) (h2 : Bd m y) : Bd (n + m) (x * y) := by
  unfold Bd at *
  rw [Int.natAbs_mul, Nat.pow_add]
  exact Nat.mul_lt_mul'' h h2
theorem Bd.add {n : Nat} {x y : Int} (h : Bd n x) (h2 : Bd n y) : Bd (n + 1) (x + y) := by
  unfold Bd at *
  have := Int.natAbs_add_le x y
  rw [Nat.pow_succ]
  omega
theorem Bd.neg {n : Nat} {x : Int} (h : Bd n x) : Bd n (-x) := by
  unfold Bd at *; rw [Int.natAbs_neg]; exact h
theorem Bd.neg0 {n : Nat} {x : Int} (h : Bd n x) : Bd n (0 - x) := by rw [Int.zero_sub]; exact h.neg
theorem Bd.log {n : Nat} {x : Int} (h : Bd n x) (h0 : 0 < n) : x.natAbs.log2 < n := PySem.Flt.log2_lt_of h0 h
theorem Bd.mulOk {n m : Nat} {x y : Int} (h : Bd n x) (h2 : Bd m y) (h0 : 0 < n) (h1 : 0 < m) (hs : n + m ≤ 1000000) : CMulD x y := .inl (wide_mul h h2 h0 h1 hs)
theorem sgcd_ne {a b : Int} (h : b ≠ 0) : sgcd a b ≠ 0 := by
  have : Int.gcd a b ≠ 0 := fun z => h (Int.gcd_eq_zero_iff.mp z).2
  unfold sgcd
  split <;> omega
theorem sgcd_le {a b : Int} (h : b ≠ 0) : (sgcd a b).natAbs ≤ b.natAbs := by
  have h1 : Int.gcd a b ∣ b.natAbs := Int.gcd_dvd_natAbs_right a b
  have h2 := Nat.le_of_dvd (by omega) h1
  unfold sgcd
  split <;> omega
theorem sgcd_ok {n : Nat} {a b : Int} (h : b ≠ 0) (hb : Bd n b) (hn : 0 < n) (hn2 : n ≤ 9000) (x : Int) : CDivA x (sgcd a b) :=
  ⟨sgcd_ne h, Nat.lt_of_lt_of_le (Bd.log (n := n) (Nat.lt_of_le_of_lt (sgcd_le h) hb) hn) hn2⟩
/-! how long a text repr tells: data that is small enough -/
mutual
def wt : PyData → Nat
  | .none => 10
  | .bool _ => 10
  | .int _ => 2000
  | .str x => 10 * x.length + 10
  | .list xs => wts xs + 10
  | .tuple xs => wts xs + 10
  | .dict _ => 10
def wts : List PyData → Nat
  | [] => 0
  | x :: r => wt x + 2 + wts r
end
/-! data that repr shows: dicts are empty, texts of signs -/
mutual
def lay1 : PyData → Bool
  | .none => true
  | .bool _ => true
  | .int _ => true
  | .str x => x.cps.all (· < 0x110000)
  | .list xs => lay1s xs
  | .tuple xs => lay1s xs
  | .dict kvs => kvs.isEmpty
def lay1s : List PyData → Bool
  | [] => true
  | x :: r => lay1 x && lay1s r
end
mutual
theorem lay1_of : ∀ p : PyData, p.canLay0 = true → lay1 p = true
  | .none, _ => rfl
  | .bool _, _ => rfl
  | .int _, _ => rfl
  | .str x, h => h
  | .list xs, h => lay1s_of xs h
  | .tuple xs, h => lay1s_of xs h
  | .dict _, h => by cases h
theorem lay1s_of : ∀ xs : List PyData, PyData.canLayAll0 xs = true → lay1s xs = true
  | [], _ => rfl
  | x :: r, h => by
    obtain ⟨a1, a2⟩ := Bool.and_eq_true_iff.mp h
    show (lay1 x && lay1s r) = true
    rw [lay1_of x a1, lay1s_of r a2]; rfl
end
theorem listText_le (ts : List Str) : (listText ts).length ≤ piled ts + 4 := by
  have e : (listText ts).length = (textFrom 0 "[" ts).length + 1 := by
    show (textFrom 0 "[" ts ++ "]").length = _
    rw [strLen_append]; rfl
  cases ts with
  | nil => rw [e]; decide +kernel
  | cons t r =>
    have h1 : textFrom 0 "[" (t :: r) = textFrom 1 ("[" ++ (if 0 > 0 then ", " else "" : String) ++ t) r := rfl
    have h2 := textFrom_length_pos r 1 ("[" ++ (if 0 > 0 then ", " else "" : String) ++ t) (by decide)
    have h3 : (("[" : Str) ++ ((if 0 > 0 then ", " else "" : String) : Str) ++ t).length = 1 + t.length := by
      rw [strLen_append, strLen_append]
      show 1 + 0 + t.length = _
      omega
    rw [e, h1, h2, h3, piled_cons]
    omega
mutual
theorem shown_le : ∀ p : PyData, lay1 p = true → p.showable = true → p.shown.length ≤ wt p
  | .none, _, _ => by decide +kernel
  | .bool b, _, _ => by cases b <;> decide +kernel
  | .int i, _, h => by
    have := int_text_len_1921 (i := i) (of_decide_eq_true h)
    show (Str.ofString (toString i)).length ≤ 2000
    omega
  | .str x, h, _ => by
    have h' : x.cps.all (· < 0x110000) = true := h
    have := StrLaws.reprText_len x fun c hc => by
      rw [Array.all_eq_true'] at h'
      have z := of_decide_eq_true (h' c (Array.mem_toList_iff.mp hc))
      exact Nat.lt_trans z (by decide)
    show (reprText x).length ≤ 10 * x.length + 10
    omega
  | .list xs, h, h2 => by
    have := shownAll_le xs h h2
    have h3 := listText_le (PyData.shownAll xs)
    show (listText (PyData.shownAll xs)).length ≤ wts xs + 10
    omega
  | .tuple xs, h, h2 => by
    have := shownAll_le xs h h2
    have h3 := fmt_text (PyData.shownAll xs)
    show (tupleText (PyData.shownAll xs)).length ≤ wts xs + 10
    omega
  | .dict kvs, h, _ => by
    cases kvs with
    | nil => exact (by decide +kernel : (PyData.dict []).shown.length ≤ 10)
    | cons _ _ => cases h
theorem shownAll_le : ∀ xs : List PyData, lay1s xs = true → PyData.showableAll xs = true → piled (PyData.shownAll xs) ≤ wts xs
  | [], _, _ => Nat.le_refl 0
  | x :: r, h, h2 => by
    obtain ⟨a1, a2⟩ := Bool.and_eq_true_iff.mp h
    obtain ⟨b1, b2⟩ := Bool.and_eq_true_iff.mp h2
    have z1 := shown_le x a1 b1
    have z2 := shownAll_le r a2 b2
    show piled (PyData.shown x :: PyData.shownAll r) ≤ wt x + 2 + wts r
    rw [piled_cons]
    omega
end
structure Sm (d : D) (n k : Nat) : Prop where
  ex : ∃ p, toPy d = some p ∧ p.canLay0 = true ∧ p.showable = true ∧ wt p ≤ n ∧ p.depth ≤ k
theorem Sm.mono {d : D} {n k n' k' : Nat} (h : Sm d n k) (h1 : n ≤ n') (h2 : k ≤ k') : Sm d n' k' := by
  obtain ⟨p, a, b, c, e, f⟩ := h.ex
  exact ⟨p, a, b, c, Nat.le_trans e h1, Nat.le_trans f h2⟩
theorem Sm.shw {d : D} {n k : Nat} (h : Sm d n k) (hn : n ≤ 16000000 := by decide) (hk : k ≤ 60 := by decide) : Shw d := by
  obtain ⟨p, a, b, c, e, f⟩ := h.ex
  exact ⟨p, a, c, by omega, Nat.le_trans (shown_le p (lay1_of p b) c) (Nat.le_trans e (Nat.le_trans hn (by decide)))⟩
theorem Sm.sh {d : D} {n k : Nat} (h : Sm d n k) (hk : k ≤ 60 := by decide) : ShD d := by
  obtain ⟨p, a, b, c, e, f⟩ := h.ex
  refine ⟨p, a, ?_⟩
  unfold SeqAt.shaped
  rw [b, decide_eq_true (by omega : p.depth ≤ 64)]
  rfl
theorem sm_int {n : Nat} {i : Int} (h : Bd n i) (hn : n ≤ 1900 := by decide) : Sm (.int i) 2000 0 := by
  refine ⟨_, rfl, rfl, ?_, Nat.le_refl _, Nat.le_refl _⟩
  refine decide_eq_true (Nat.lt_of_lt_of_le (Bd.log (n := n + 1) (h.mono (Nat.le_succ n)) (Nat.succ_pos n)) (by omega))
theorem sm_bl (b : Bool) : Sm (.bl b) 10 0 := ⟨_, rfl, rfl, rfl, Nat.le_refl _, Nat.le_refl _⟩
theorem sm_non : Sm .non 10 0 := ⟨_, rfl, rfl, rfl, Nat.le_refl _, Nat.le_refl _⟩
theorem sm_str (x : Str) (h : x.cps.all (· < 0x110000) = true) : Sm (.str x) (10 * x.length + 10) 0 := ⟨_, rfl, h, rfl, Nat.le_refl _, Nat.le_refl _⟩
theorem sm_all {n k : Nat} : ∀ xs : List D, (∀ x ∈ xs, Sm x n k) → ∃ ps, toPys xs = some ps ∧ PyData.canLayAll0 ps = true ∧ PyData.showableAll ps = true ∧ wts ps ≤ (n + 2) * xs.length ∧ PyData.depthAll ps ≤ k
  | [], _ => ⟨[], rfl, rfl, rfl, Nat.zero_le _, Nat.zero_le _⟩
  | x :: r, h => by
    obtain ⟨p, a, b, c, e, f⟩ := (h x List.mem_cons_self).ex
    obtain ⟨ps, a2, b2, c2, e2, f2⟩ := sm_all r fun y hy => h y (List.mem_cons_of_mem _ hy)
    refine ⟨p :: ps, by unfold toPys; rw [a, a2], Bool.and_eq_true_iff.mpr ⟨b, b2⟩, Bool.and_eq_true_iff.mpr ⟨c, c2⟩, ?_, Nat.max_le.mpr ⟨f, f2⟩⟩
    show wt p + 2 + wts ps ≤ (n + 2) * (r.length + 1)
    rw [Nat.mul_succ]
    omega
theorem sm_lst {n k : Nat} {xs : List D} (h : ∀ x ∈ xs, Sm x n k) : Sm (.lst xs) ((n + 2) * xs.length + 10) (k + 1) := by
  obtain ⟨ps, a, b, c, e, f⟩ := sm_all xs h
  refine ⟨.list ps, by unfold toPy; rw [a]; rfl, b, c, ?_, Nat.succ_le_succ f⟩
  show wts ps + 10 ≤ _
  omega
theorem sm_tup {n k : Nat} {xs : List D} (h : ∀ x ∈ xs, Sm x n k) : Sm (.tup xs) ((n + 2) * xs.length + 10) (k + 1) := by
  obtain ⟨ps, a, b, c, e, f⟩ := sm_all xs h
  refine ⟨.tuple ps, by unfold toPy; rw [a]; rfl, b, c, ?_, Nat.succ_le_succ f⟩
  show wts ps + 10 ≤ _
  omega
theorem forall2 {p : D → Prop} {x y : D} (h1 : p x) (h2 : p y) : ∀ z ∈ [x, y], p z := fun z hz => by
  rcases List.mem_cons.mp hz with rfl | hz
  · exact h1
  · rw [List.mem_singleton.mp hz]; exact h2
theorem sm_tup2 {n k : Nat} {x y : D} (h1 : Sm x n k) (h2 : Sm y n k) : Sm (.tup [x, y]) ((n + 2) * 2 + 10) (k + 1) := sm_tup (forall2 h1 h2)
theorem sm_lst2 {n k : Nat} {x y : D} (h1 : Sm x n k) (h2 : Sm y n k) : Sm (.lst [x, y]) ((n + 2) * 2 + 10) (k + 1) := sm_lst (forall2 h1 h2)
/-- the same, empty dicts too: for repr alone -/
structure Sd (d : D) (n k : Nat) : Prop where
  ex : ∃ p, toPy d = some p ∧ lay1 p = true ∧ p.showable = true ∧ wt p ≤ n ∧ p.depth ≤ k
theorem Sm.sd {d : D} {n k : Nat} (h : Sm d n k) : Sd d n k := by
  obtain ⟨p, a, b, c, e, f⟩ := h.ex
  exact ⟨p, a, lay1_of p b, c, e, f⟩
theorem Sd.mono {d : D} {n k n' k' : Nat} (h : Sd d n k) (h1 : n ≤ n') (h2 : k ≤ k') : Sd d n' k' := by
  obtain ⟨p, a, b, c, e, f⟩ := h.ex
  exact ⟨p, a, b, c, Nat.le_trans e h1, Nat.le_trans f h2⟩
theorem Sd.shw {d : D} {n k : Nat} (h : Sd d n k) (hn : n ≤ 16000000 := by decide) (hk : k ≤ 60 := by decide) : Shw d := by
  obtain ⟨p, a, b, c, e, f⟩ := h.ex
  exact ⟨p, a, c, by omega, Nat.le_trans (shown_le p b c) (Nat.le_trans e (Nat.le_trans hn (by decide)))⟩
theorem sd_edic : Sd .edic 10 1 := ⟨_, rfl, rfl, rfl, Nat.le_refl _, by decide⟩
theorem sd_all {n k : Nat} : ∀ xs : List D, (∀ x ∈ xs, Sd x n k) → ∃ ps, toPys xs = some ps ∧ lay1s ps = true ∧ PyData.showableAll ps = true ∧ wts ps ≤ (n + 2) * xs.length ∧ PyData.depthAll ps ≤ k
  | [], _ => ⟨[], rfl, rfl, rfl, Nat.zero_le _, Nat.zero_le _⟩
  | x :: r, h => by
    obtain ⟨p, a, b, c, e, f⟩ := (h x List.mem_cons_self).ex
    obtain ⟨ps, a2, b2, c2, e2, f2⟩ := sd_all r fun y hy => h y (List.mem_cons_of_mem _ hy)
    refine ⟨p :: ps, by unfold toPys; rw [a, a2], Bool.and_eq_true_iff.mpr ⟨b, b2⟩, Bool.and_eq_true_iff.mpr ⟨c, c2⟩, ?_, Nat.max_le.mpr ⟨f, f2⟩⟩
    show wt p + 2 + wts ps ≤ (n + 2) * (r.length + 1)
    rw [Nat.mul_succ]
    omega
theorem sd_lst {n k : Nat} {xs : List D} (h : ∀ x ∈ xs, Sd x n k) : Sd (.lst xs) ((n + 2) * xs.length + 10) (k + 1) := by
  obtain ⟨ps, a, b, c, e, f⟩ := sd_all xs h
  refine ⟨.list ps, by unfold toPy; rw [a]; rfl, b, c, ?_, Nat.succ_le_succ f⟩
  show wts ps + 10 ≤ _
  omega
theorem sd_tup {n k : Nat} {xs : List D} (h : ∀ x ∈ xs, Sd x n k) : Sd (.tup xs) ((n + 2) * xs.length + 10) (k + 1) := by
  obtain ⟨ps, a, b, c, e, f⟩ := sd_all xs h
  refine ⟨.tuple ps, by unfold toPy; rw [a]; rfl, b, c, ?_, Nat.succ_le_succ f⟩
  show wts ps + 10 ≤ _
  omega
/-! plain data: what isinstance tells of -/
mutual
def plain : D → Bool
  | .non => true
  | .bl _ => true
  | .int _ => true
  | .str _ => true
  | .lst xs => plains xs
  | .tup xs => plains xs
  | .fro _ => false
  | .edic => true
  | .dct _ => false
  | .opq _ => false
  | .exc _ _ _ => false
def plains : List D → Bool
  | [] => true
  | x :: r => plain x && plains r
end
theorem plain_ty {d : D} (h : plain d = true) : ∃ a, tyD d = some a := by
  cases d <;> first | exact ⟨_, rfl⟩ | cases h
theorem plains_iff : ∀ {xs : List D}, plains xs = true ↔ ∀ x ∈ xs, plain x = true
  | [] => ⟨fun _ _ h => (by cases h), fun _ => rfl⟩
  | x :: r => by
    show (plain x && plains r) = true ↔ _
    rw [Bool.and_eq_true_iff, plains_iff (xs := r)]
    exact ⟨fun h y hy => (List.mem_cons.mp hy).elim (fun e => e ▸ h.1) (h.2 y), fun h => ⟨h x List.mem_cons_self, fun y hy => h y (List.mem_cons_of_mem _ hy)⟩⟩
/-- plain data that repr shows -/
structure Gd (d : D) (n k : Nat) : Prop where
  pl : plain d = true
  sd : Sd d n k
theorem Gd.mono {d : D} {n k n' k' : Nat} (h : Gd d n k) (h1 : n ≤ n') (h2 : k ≤ k') : Gd d n' k' := ⟨h.pl, h.sd.mono h1 h2⟩
theorem gd_non : Gd .non 10 0 := ⟨rfl, sm_non.sd⟩
theorem gd_bl (b : Bool) : Gd (.bl b) 10 0 := ⟨rfl, (sm_bl b).sd⟩
theorem gd_int {n : Nat} {i : Int} (h : Bd n i) (hn : n ≤ 1900 := by decide) : Gd (.int i) 2000 0 := ⟨rfl, (sm_int h hn).sd⟩
theorem gd_edic : Gd .edic 10 1 := ⟨rfl, sd_edic⟩
theorem gd_lst {n k : Nat} {xs : List D} (h : ∀ x ∈ xs, Gd x n k) : Gd (.lst xs) ((n + 2) * xs.length + 10) (k + 1) := ⟨plains_iff.mpr fun x hx => (h x hx).pl, sd_lst fun x hx => (h x hx).sd⟩
theorem gd_tup {n k : Nat} {xs : List D} (h : ∀ x ∈ xs, Gd x n k) : Gd (.tup xs) ((n + 2) * xs.length + 10) (k + 1) := ⟨plains_iff.mpr fun x hx => (h x hx).pl, sd_tup fun x hx => (h x hx).sd⟩
theorem all_nil {p : D → Prop} : ∀ x ∈ ([] : List D), p x := fun _ h => by cases h
theorem all_cons {p : D → Prop} {x : D} {r : List D} (h : p x) (t : ∀ y ∈ r, p y) : ∀ y ∈ x :: r, p y := fun y hy => by
  rcases List.mem_cons.mp hy with rfl | hy
  · exact h
  · exact t y hy
theorem all_app {p : D → Prop} {xs ys : List D} (h : ∀ y ∈ xs, p y) (t : ∀ y ∈ ys, p y) : ∀ y ∈ xs ++ ys, p y := fun y hy => (List.mem_append.mp hy).elim (h y) (t y)
/-! texts -/
theorem ofString_ok (s : String) : (Str.ofString s).cps.all (· < 0x110000) = true := by
  rw [Array.all_eq_true']
  intro c hc
  rw [← Array.mem_toList_iff, PyProof.Rows.signs_ofString, List.mem_map] at hc
  obtain ⟨ch, _, rfl⟩ := hc
  have := ch.valid
  rcases this with h | ⟨_, h⟩
  · exact decide_eq_true (Nat.lt_trans h (by decide))
  · exact decide_eq_true h
theorem append_ok {x y : Str} (hx : x.cps.all (· < 0x110000) = true) (hy : y.cps.all (· < 0x110000) = true) : (x ++ y).cps.all (· < 0x110000) = true := by
  show (x.cps ++ y.cps).all _ = true
  rw [Array.all_append, hx, hy]; rfl
theorem gd_str (x : Str) (h : x.cps.all (· < 0x110000) = true) : Gd (.str x) (10 * x.length + 10) 0 := ⟨rfl, (sm_str x h).sd⟩
theorem gd_lit (s : String) : Gd (.str s) (10 * (Str.ofString s).length + 10) 0 := gd_str _ (ofString_ok s)
theorem textFrom_ok : ∀ (ts : List Str) (n : Nat) (a : Str), a.cps.all (· < 0x110000) = true → (∀ t ∈ ts, t.cps.all (· < 0x110000) = true) → (textFrom n a ts).cps.all (· < 0x110000) = true
  | [], _, _, h, _ => h
  | t :: r, n, a, h, ht => textFrom_ok r (n + 1) _ (append_ok (append_ok h (ofString_ok _)) (ht t List.mem_cons_self)) fun u hu => ht u (List.mem_cons_of_mem _ hu)
theorem listText_ok (ts : List Str) (h : ∀ t ∈ ts, t.cps.all (· < 0x110000) = true) : (listText ts).cps.all (· < 0x110000) = true := append_ok (textFrom_ok ts 0 "[" (ofString_ok "[") h) (ofString_ok "]")
theorem ints_shown : ∀ (is : List Int), ∃ ps, toPys (is.map D.int) = some ps ∧ ∀ t ∈ PyData.shownAll ps, t.cps.all (· < 0x110000) = true
  | [] => ⟨[], rfl, fun t h => by cases h⟩
  | i :: r => by
    obtain ⟨ps, e, h⟩ := ints_shown r
    refine ⟨.int i :: ps, by rw [List.map_cons]; unfold toPys; rw [e]; rfl, fun t ht => ?_⟩
    rcases List.mem_cons.mp ht with rfl | ht
    · exact ofString_ok _
    · exact h t ht
/-- repr of a list of ints is a text -/
theorem gd_repr {is : List Int} {n : Nat} (h : ∀ i ∈ is, Bd n i) (hl : is.length ≤ 100) (hn : n ≤ 1900 := by decide) : Gd (.str (repS (.lst (is.map D.int)))) 2100000 0 := by
  have hs : Sd (.lst (is.map D.int)) ((2000 + 2) * (is.map D.int).length + 10) 1 := (sd_lst fun x hx => by obtain ⟨i, hi, rfl⟩ := List.mem_map.mp hx; exact (sm_int (h i hi) hn).sd)
  obtain ⟨ps, e, ht⟩ := ints_shown is
  obtain ⟨p, a, b, c, e2, f⟩ := hs.ex
  have ep : p = .list ps := by
    unfold toPy at a
    rw [e] at a
    exact (Option.some.inj a).symm
  have er : repS (.lst (is.map D.int)) = p.shown := by unfold repS; rw [a]
  have hl2 := shown_le p b c
  rw [List.length_map] at e2
  have ok : (repS (.lst (is.map D.int))).cps.all (· < 0x110000) = true := by rw [er, ep]; exact listText_ok _ ht
  refine (gd_str _ ok).mono ?_ (Nat.le_refl _)
  rw [er]
  omega
/-! choices -/
theorem ite_t {c : Prop} [Decidable c] {a b : Prop} (h : c) (x : a) : if c then a else b := by rw [if_pos h]; exact x
theorem ite_f {c : Prop} [Decidable c] {a b : Prop} (h : ¬ c) (x : b) : if c then a else b := by rw [if_neg h]; exact x
/-! picks -/
theorem atI_0 {α : Type} (x : α) (r : List α) : atI (x :: r) 0 = some x := atI_nat (j := 0) rfl
theorem atI_1 {α : Type} (x y : α) (r : List α) : atI (x :: y :: r) 1 = some y := atI_nat (j := 1) rfl
theorem atI_mem {α : Type} {xs : List α} {i : Int} (h0 : 0 ≤ i) (h1 : i < (xs.length : Int)) : ∃ w, atI xs i = some w ∧ w ∈ xs := by
  obtain ⟨j, rfl⟩ : ∃ j : Nat, i = (j : Int) := ⟨i.toNat, by omega⟩
  have hj : j < xs.length := by omega
  exact ⟨xs[j], atI_nat (List.getElem?_eq_getElem hj), List.getElem_mem hj⟩
theorem cpow_ok {j : Int} (h0 : 0 ≤ j) (h1 : j ≤ 1000000) : CPow 10 j := ⟨h0, h1, by decide⟩
theorem w_ixm {xs : List D} {i : Int} {ms : MS} {P : D → MS → Prop} (h0 : 0 ≤ i) (h1 : i < (xs.length : Int)) (h : ∀ d ∈ xs, P d ms) : fIx (.lst xs) (.int i) ms P := by
  obtain ⟨d, e, hd⟩ := atI_mem h0 h1
  exact w_ix_l e (h d hd)
theorem pick2 {α : Type} {x y : α} {i : Int} (h0 : 0 ≤ i) (h1 : i < 2) : ∃ w, atI [x, y] i = some w ∧ (w = x ∨ w = y) := by
  have : i = 0 ∨ i = 1 := by omega
  rcases this with rfl | rfl
  · exact ⟨x, rfl, .inl rfl⟩
  · exact ⟨y, rfl, .inr rfl⟩
theorem rng_mem {lo : Int} {n : Nat} {x : D} (h : x ∈ rng lo n) : ∃ i : Nat, i < n ∧ x = .int (lo + i) := by
  unfold rng at h
  obtain ⟨i, hi, rfl⟩ := List.mem_map.mp h
  exact ⟨i, List.mem_range.mp hi, rfl⟩
theorem rng_len {lo : Int} {n : Nat} : (rng lo n).length = n := by unfold rng; rw [List.length_map, List.length_range]
theorem ints_of {n : Nat} : ∀ ys : List D, (∀ y ∈ ys, ∃ i : Int, y = .int i ∧ Bd n i) → ∃ is : List Int, ys = is.map D.int ∧ (∀ i ∈ is, Bd n i) ∧ is.length = ys.length
  | [], _ => ⟨[], rfl, (fun _ h => by cases h), rfl⟩
  | y :: r, h => by
    obtain ⟨t, rfl, ht⟩ := h y List.mem_cons_self
    obtain ⟨ts, e, h2, h3⟩ := ints_of r fun z hz => h z (List.mem_cons_of_mem _ hz)
    refine ⟨t :: ts, by rw [e]; rfl, fun x hx => ?_, by rw [List.length_cons, List.length_cons, h3]⟩
    rcases List.mem_cons.mp hx with rfl | hx
    · exact ht
    · exact h2 x hx
/-! comprehensions that draw nothing -/
theorem comp_pure {g : DG} {te : DE} {ds : DS} {ms : MS} (f : D → D) : ∀ (xs acc : List D) (P : List D → MS → Prop), acc.length + xs.length ≤ 1000000 → (∀ x ∈ xs, ∀ P0 : D → MS → Prop, P0 (f x) ms → g x ds fun ds2 => te ds2 ms P0) →
    P (acc ++ xs.map f) ms → compD g dYes te ds xs acc ms P
  | [], acc, P, _, _, h => by rw [List.map_nil, List.append_nil] at h; exact h
  | x :: r, acc, P, hl, t, h => by
    rw [List.length_cons] at hl
    unfold compD
    simp only [dYes, if_true]
    refine t x List.mem_cons_self _ ⟨Nat.lt_of_lt_of_le (by omega : acc.length < 1000001) (by decide), comp_pure f r _ P (by rw [List.length_append, List.length_singleton]; omega) (fun y hy => t y (List.mem_cons_of_mem _ hy)) ?_⟩
    rw [List.append_assoc]
    exact h
theorem comp_filt {g : DG} {tt : DT} {te : DE} {ds : DS} {ms : MS} (p : D → Bool) (f : D → D) : ∀ (xs acc : List D) (P : List D → MS → Prop), acc.length + xs.length ≤ 1000000 →
    (∀ x ∈ xs, ∀ (K : D → MS → Prop) (L : MS → Prop), (p x = true → K (f x) ms) → (p x = false → L ms) → g x ds fun ds2 => tt ds2 ms fun b m3 => if b = true then te ds2 m3 K else L m3) →
    P (acc ++ (xs.filter p).map f) ms → compD g tt te ds xs acc ms P
  | [], acc, P, _, _, h => by rw [List.filter_nil, List.map_nil, List.append_nil] at h; exact h
  | x :: r, acc, P, hl, t, h => by
    rw [List.length_cons] at hl
    unfold compD
    refine t x List.mem_cons_self (fun y m4 => acc.length < sizeLine ∧ compD g tt te ds r (acc ++ [y]) m4 P) (fun m3 => compD g tt te ds r acc m3 P) (fun e => ?_) fun e => ?_
    · refine ⟨Nat.lt_of_lt_of_le (by omega : acc.length < 1000001) (by decide), comp_filt p f r _ P (by rw [List.length_append, List.length_singleton]; omega) (fun y hy => t y (List.mem_cons_of_mem _ hy)) ?_⟩
      rw [List.filter_cons, if_pos e, List.map_cons] at h
      rw [List.append_assoc]
      exact h
    · refine comp_filt p f r _ P (by omega) (fun y hy => t y (List.mem_cons_of_mem _ hy)) ?_
      rw [List.filter_cons, if_neg (by rw [e]; decide)] at h
      exact h
theorem comp_e {α : Type} {g : DG} {te : DE} {ds : DS} {ms : MS} (e : α → D) (f : α → D) : ∀ (xs : List α) (acc : List D) (P : List D → MS → Prop), acc.length + xs.length ≤ 1000000 →
    (∀ x ∈ xs, ∀ P0 : D → MS → Prop, P0 (f x) ms → g (e x) ds fun ds2 => te ds2 ms P0) → P (acc ++ xs.map f) ms → compD g dYes te ds (xs.map e) acc ms P
  | [], acc, P, _, _, h => by rw [List.map_nil, List.append_nil] at h; exact h
  | x :: r, acc, P, hl, t, h => by
    rw [List.length_cons] at hl
    rw [List.map_cons]
    unfold compD
    simp only [dYes, if_true]
    refine t x List.mem_cons_self _ ⟨Nat.lt_of_lt_of_le (by omega : acc.length < 1000001) (by decide), comp_e e f r _ P (by rw [List.length_append, List.length_singleton]; omega) (fun y hy => t y (List.mem_cons_of_mem _ hy)) ?_⟩
    rw [List.append_assoc]
    exact h
theorem bls_map {α : Type} (f : α → Bool) : ∀ xs : List α, blsOf (xs.map fun x => D.bl (f x)) = some (xs.map f)
  | [] => rfl
  | x :: r => by rw [List.map_cons, List.map_cons]; unfold blsOf; rw [bls_map f r]; rfl
local macro_rules | `(tactic| walk_at "d2") => `(tactic| simp only [dSeq, dWhile, dTest, dOp, dVar, dC, dPar, dRet, dRetN, dCB, dAsg, dIfS, dNext, dTup, dLst, dLstM, dCall, dNeg, dSetIx, dDrop, dAnd, dOr, dNot, dAndV, dOrV, dNotV, dIf, dFor, dLc, dSl, dIsi, dYes, dTru, truD, dAppend, dFrz,
  aNil, aCons, oNone, oSome, sName, sTup, sCons, sNil, iRange1, iRange2, iSeq, iTupD, iZipD, iEnumD, slot, setSlot, startD, List.length_nil, List.length_cons, Nat.reduceAdd, List.append_nil, List.cons_append, List.nil_append, pick, List.filterMap_cons, List.filterMap_nil, List.getElem?_cons_zero, List.getElem?_cons_succ,
  fI, fAdd, fSub, fMul, fDiv, fMod, fPow, fLt, fLe, fGt, fGe, fEq, fNe, cAbs, cMax2, cMin2, cInt1, cLen, cRepr, true_and, and_true, decide_eq_true_eq, if_true, dDoX, dRaise, dRaiseI, dExprZ, dRetZ, dAsgZ, dCallZ, dTry0, dTry, dIsE, dFld, dEdic, EN.lp, EN.wn, EN.wx, cTuple, cList, cStr, cAll, cAny, cSum, fSl, asL, fIx, atI_0, atI_1, fIn, fNotIn, fInB, wipeD, List.set, dChain])
local macro_rules | `(tactic| walk_at "s1") => `(tactic| (first | ((with_reducible refine ExG.out ?_); (first | ((with_reducible refine' w_var ?wa ?wz); (case wa => rfl)) | (with_reducible refine w_c ?_) | (with_reducible refine w_op ?_) | (with_reducible refine w_call ?_) | (with_reducible refine w_cb ?_) | (with_reducible refine w_tup ?_) | (with_reducible refine w_lst ?_) | (with_reducible refine w_andV ?_) | (with_reducible refine w_orV ?_) | (with_reducible refine w_notV ?_) | (with_reducible refine w_if ?_) | (with_reducible refine w_isi ?_) | (with_reducible refine w_sl ?_) | (with_reducible refine w_lc (fun _ => rfl) ?_) | (with_reducible refine w_callZ ?_) | (with_reducible refine w_callA ?_) | (with_reducible refine w_callAZ ?_) | (with_reducible refine w_isE ?_) | (with_reducible refine w_fld ?_) | (with_reducible refine w_append ?_) | (with_reducible refine w_lstM ?_) | (with_reducible refine w_frz ?_) | (with_reducible refine w_chain ?_) | (with_reducible refine w_neg ?_) | (with_reducible refine w_edic ?_))) | ((with_reducible refine ArG.out ?_); (first | (with_reducible refine w_acons ?_) | (with_reducible refine w_anil ?_))) | ((with_reducible refine OpG.out ?_); (first | ((with_reducible refine' w_ix_t ?wa ?wz); (case wa => (first | exact w_at0 _ _ | exact w_at1 _ _ _ | exact w_at2 _ _ _ _ | exact w_at3 _ _ _ _ _))) | ((with_reducible refine' w_ix_l ?wa ?wz); (case wa => (first | exact w_at0 _ _ | exact w_at1 _ _ _ | exact w_at2 _ _ _ _ | exact w_at3 _ _ _ _ _))) | (with_reducible refine w_add_ii ?_) | (with_reducible refine w_sub ?_) | (with_reducible refine w_eq_ii ?_) | (with_reducible refine w_ne_ii ?_) | (with_reducible refine w_lt ?_) | (with_reducible refine w_gt ?_) | (with_reducible refine w_le ?_) | (with_reducible refine w_ge ?_) | (with_reducible refine w_eq_ss ?_) | (with_reducible refine w_ne_ss ?_) | (with_reducible refine w_mul ?_) | (with_reducible refine w_div ?_) | (with_reducible refine w_mod ?_) | ((with_reducible refine' w_pow ?wa ?wc ?wz); (case wa => decide); (case wc => (first | exact t9 | exact t6 | exact t18 | exact t39 | exact t58 | exact t30))) | (with_reducible refine w_add_ll ?_) | (with_reducible refine w_eq_l0 ?_) | (with_reducible refine w_ne_l0 ?_) | (with_reducible refine w_eq_bb ?_) | (with_reducible refine w_ne_bb ?_) | (with_reducible refine w_add_ss ?_) | (with_reducible refine w_mul_l ?_) | (with_reducible refine w_eq_lc ?_) | (with_reducible refine w_eq_tt ?_) | (with_reducible refine w_ne_lc ?_) | (with_reducible refine w_ne_tt ?_) | (with_reducible refine w_in_l ?_) | (with_reducible refine w_in_t ?_) | (with_reducible refine w_notIn_l ?_) | (with_reducible refine w_notIn_t ?_) | ((with_reducible refine' w_add_ol ?wa ?wz); (case wa => (first | assumption | exact look_new))) | (with_reducible refine w_is ?_) | (with_reducible refine w_notIs ?_))) | ((with_reducible refine TgG.out ?_); (first | ((with_reducible refine' w_name ?wa ?wz); (case wa => (first | (simp only [setSlot, startD]; done) | (simp only [setSlot, startD]; rfl) | rfl))) | ((with_reducible refine w_stup ?wa ?wz); (case wa => rfl)))) | (with_reducible refine n_wn ?_) | (with_reducible refine n_lp ?_) | (with_reducible refine t_wn ?_) | (with_reducible refine t_lp ?_) | (with_reducible refine t_mk ?_) | (with_reducible refine n_wx ?_) | (with_reducible refine x_wn ?_) | (with_reducible refine x_lp ?_) | (with_reducible refine x_wx ?_) | (with_reducible refine x_mk ?_) | (with_reducible refine t_wx ?_) | (with_reducible refine n_mk ?_) | ((with_reducible refine StG.out ?_); (first | (with_reducible refine w_asg ?_) | (with_reducible refine w_seq ?_) | (with_reducible refine w_ifS ?_) | (with_reducible refine w_ret ?_) | (with_reducible refine w_drop ?_) | (with_reducible refine w_next ?_) | (with_reducible refine w_for ?_) | (with_reducible refine w_par ?_) | (with_reducible refine w_exprZ ?_) | (with_reducible refine w_retZ ?_) | (with_reducible refine w_asgZ ?_) | (with_reducible refine w_try0 ?_) | (with_reducible refine w_tryG0 ?_) | (with_reducible refine w_tryG ?_) | (with_reducible refine w_try ?_) | (with_reducible refine w_raise ?_) | (with_reducible refine w_raiseI ?_) | (with_reducible refine w_retN ?_) | (with_reducible refine w_break ?_) | (with_reducible refine w_cont ?_))) | ((with_reducible refine TsG.out ?_); (first | (with_reducible refine w_test ?_) | (with_reducible refine w_not ?_) | (with_reducible refine w_or ?_) | (with_reducible refine w_and ?_) | (with_reducible refine w_yes ?_) | (with_reducible refine w_tru ?_))) | ((with_reducible refine CbG.out ?_); (first | (with_reducible refine w_len_l ?_) | (with_reducible refine w_repr ?_) | (with_reducible refine w_len_f ?_) | (with_reducible refine w_len_t ?_) | (with_reducible refine w_len_s ?_) | (with_reducible refine w_max2 ?_) | (with_reducible refine w_min2 ?_) | (with_reducible refine w_int_b ?_) | (with_reducible refine w_int_i ?_) | (with_reducible refine w_abs ?_) | (with_reducible refine w_list_l ?_) | (with_reducible refine w_list_f ?_) | (with_reducible refine w_list_t ?_) | (with_reducible refine w_tuple_l ?_) | (with_reducible refine w_tuple_t ?_) | (with_reducible refine w_str_s ?_) | (with_reducible refine w_str_l ?_) | (with_reducible refine w_str_i ?_))) | ((with_reducible refine w_size ?wa ?wz); (case wa => exact Nat.le_of_ble_eq_true rfl)) | ((with_reducible refine w_sizeL ?wa ?wz); (case wa => exact Nat.le_of_ble_eq_true rfl)) | ((with_reducible refine' w_mCall ?wa ?wv ?wc ?wz); (case wa => rfl); (case wv => rfl); (case wc => (first | (simp only [pick, List.append_nil, List.cons_append, List.nil_append, List.filterMap_cons, List.filterMap_nil, List.getElem?_cons_zero, List.getElem?_cons_succ]; done) | (simp only [pick, List.append_nil, List.cons_append, List.nil_append, List.filterMap_cons, List.filterMap_nil, List.getElem?_cons_zero, List.getElem?_cons_succ]; rfl) | rfl))) | (with_reducible refine w_mTest ?_) | ((with_reducible refine w_iteT ?wa ?wz); (case wa => rfl)) | ((with_reducible refine w_iteF ?wa ?wz); (case wa => rfl)) | ((with_reducible refine' w_mCallA ?wa ?wv ?wc ?wz); (case wa => rfl); (case wv => rfl); (case wc => (first | (simp only [pick, List.append_nil, List.cons_append, List.nil_append, List.filterMap_cons, List.filterMap_nil, List.getElem?_cons_zero, List.getElem?_cons_succ]; done) | (simp only [pick, List.append_nil, List.cons_append, List.nil_append, List.filterMap_cons, List.filterMap_nil, List.getElem?_cons_zero, List.getElem?_cons_succ]; rfl) | rfl))) | ((with_reducible refine' w_mCallAZ ?wa ?wv ?wc ?wz); (case wa => rfl); (case wv => rfl); (case wc => (first | (simp only [pick, List.append_nil, List.cons_append, List.nil_append, List.filterMap_cons, List.filterMap_nil, List.getElem?_cons_zero, List.getElem?_cons_succ]; done) | (simp only [pick, List.append_nil, List.cons_append, List.nil_append, List.filterMap_cons, List.filterMap_nil, List.getElem?_cons_zero, List.getElem?_cons_succ]; rfl) | rfl))) | ((with_reducible refine' w_mCallZ ?wa ?wv ?wc ?wz); (case wa => rfl); (case wv => rfl); (case wc => (first | (simp only [pick, List.append_nil, List.cons_append, List.nil_append, List.filterMap_cons, List.filterMap_nil, List.getElem?_cons_zero, List.getElem?_cons_succ]; done) | (simp only [pick, List.append_nil, List.cons_append, List.nil_append, List.filterMap_cons, List.filterMap_nil, List.getElem?_cons_zero, List.getElem?_cons_succ]; rfl) | rfl))) | ((with_reducible refine ItG.out ?_); (first | (with_reducible refine w_iseq ?_) | (with_reducible refine w_irng1 ?_) | (with_reducible refine w_izip ?_) | (with_reducible refine w_ienum ?_) | (with_reducible refine w_itup ?_))) | ((with_reducible refine OgG.out ?_); (first | (with_reducible refine w_onone ?_) | (with_reducible refine w_osome ?_))) | ((with_reducible refine TgsG.out ?_); (first | (with_reducible refine w_scons ?_) | (with_reducible refine w_snil ?_))) | ((with_reducible refine SlG.out ?_); (first | (with_reducible refine w_sl_l ?_) | (with_reducible refine w_sl_f ?_) | (with_reducible refine w_sl_s ?_) | (with_reducible refine w_sl_t ?_))) | (with_reducible refine b_wn ?_) | (with_reducible refine b_lp ?_) | (with_reducible refine b_wx ?_) | (with_reducible refine c_wn ?_) | (with_reducible refine c_lp ?_) | (with_reducible refine c_wx ?_) | (with_reducible refine w_mNeg ?_) | (with_reducible refine w_mAnd ?_) | (with_reducible refine w_mOr ?_) | (with_reducible refine w_mSome ?_) | (with_reducible refine w_mSeq ?_) | (with_reducible refine w_mSeqF ?_) | (with_reducible refine w_mTupI ?_) | (with_reducible refine w_mZip ?_) | (with_reducible refine w_mEnum ?_) | (with_reducible refine w_mChain ?_) | (with_reducible refine w_mIsB ?_) | ((with_reducible refine' w_mPar ?wa ?wz); (case wa => (first | (simp only [setSlot, startD]; done) | (simp only [setSlot, startD]; rfl) | rfl))) | ((with_reducible refine w_mNotT ?wa ?wz); (case wa => rfl)) | ((with_reducible refine w_mNotF ?wa ?wz); (case wa => rfl)) | (with_reducible refine w_mNot ?_) | ((with_reducible refine' w_mIsiT ?wa ?wc ?wz); (case wa => rfl); (case wc => rfl)) | ((with_reducible refine' w_mIsiF ?wa ?wc ?wz); (case wa => rfl); (case wc => rfl)) | ((with_reducible refine w_mRng ?wa ?wz); (case wa => decide)) | ((with_reducible refine' w_mTryG ?wa ?wv ?wz); (case wa => decide +kernel); (case wv => (first | (simp only [setSlot, List.set]; done) | (simp only [setSlot, List.set]; rfl) | rfl))) | ((with_reducible refine w_mTryGF ?wa ?wz); (case wa => decide +kernel)) | ((with_reducible refine' n_gone ?wa ?wz); (case wa => (first | (simp only [setSlot, List.set]; done) | (simp only [setSlot, List.set]; rfl) | rfl))) | (with_reducible refine t_gone ?_) | ((with_reducible refine' w_mTry ?wa ?wv ?wz); (case wa => decide +kernel); (case wv => (first | (simp only [setSlot, List.set]; done) | (simp only [setSlot, List.set]; rfl) | rfl))) | ((with_reducible refine w_mTryF ?wa ?wz); (case wa => decide +kernel)) | ((with_reducible refine w_mIsE (b := true) ?wa ?wz); (case wa => decide +kernel)) | ((with_reducible refine w_mIsE (b := false) ?wa ?wz); (case wa => decide +kernel)) | ((with_reducible refine' w_mFld (b := true) ?wa ?wv ?wz); (case wa => decide +kernel); (case wv => rfl)) | ((with_reducible refine' w_mApp ?wa ?wz); (case wa => (first | assumption | exact look_new))) | ((with_reducible refine' w_mApp2 ?wa ?wv ?wz); (case wa => (first | assumption | exact look_new)); (case wv => (first | exact put_new | rfl))) | ((with_reducible refine' w_mFrz ?wa ?wv ?wz); (case wa => (first | assumption | exact look_new)); (case wv => (first | exact drp_new | rfl))) | ((with_reducible refine' w_mIsN ?wa ?wz); (case wa => rfl)) | (with_reducible refine r_nx ?_) | (with_reducible refine r_rt ?_) | (with_reducible refine r_name ?_) | (with_reducible refine r_seq ?_) | (with_reducible refine r_op ?_) | (with_reducible refine r_call ?_) | (with_reducible refine r_test ?_) | (with_reducible refine r_stup ?_) | (with_reducible refine r_ret ?_) | (with_reducible refine r_ifS ?_) | (with_reducible refine r_asg ?_) | (with_reducible refine r_drop ?_) | (with_reducible refine r_for ?_) | (with_reducible refine r_exprZ ?_) | (with_reducible refine r_cb ?_) | (with_reducible refine r_var ?_) | (with_reducible refine r_c ?_) | (with_reducible refine r_tup ?_) | (with_reducible refine r_lst ?_) | (with_reducible refine r_andV ?_) | (with_reducible refine r_orV ?_) | (with_reducible refine r_notV ?_) | (with_reducible refine r_if ?_) | (with_reducible refine r_not ?_) | (with_reducible refine r_and ?_) | (with_reducible refine r_or ?_) | (with_reducible refine r_lc ?_) | (with_reducible refine r_sl ?_) | (with_reducible refine r_isi ?_) | (with_reducible refine r_chain ?_) | (with_reducible refine r_neg ?_)))
local macro_rules | `(tactic| walk_at "s1") => `(tactic| ((with_reducible refine OpG.out ?_); (with_reducible refine w_add_tt ?_)))
local macro_rules | `(tactic| walk_at "s1") => `(tactic| (first | ((with_reducible refine' n_gone ?wa ?wz); (case wa => (first | (simp only [setSlot, List.set]; done) | (simp only [setSlot, List.set]; rfl) | rfl))) | ((with_reducible refine' b_gone ?wa ?wz); (case wa => (first | (simp only [setSlot, List.set]; done) | (simp only [setSlot, List.set]; rfl) | rfl))) | ((with_reducible refine' c_gone ?wa ?wz); (case wa => (first | (simp only [setSlot, List.set]; done) | (simp only [setSlot, List.set]; rfl) | rfl))) | (with_reducible refine t_gone ?_)))
local macro_rules | `(tactic| walk_at "s1") => `(tactic| (first | ((with_reducible refine ExG.out ?_); (first | (with_reducible refine w_lcM ?_) | ((with_reducible refine' w_loan ?wa ?wb ?wc ?wd ?wz); (case wa => rfl); (case wb => (first | assumption | exact look_new)); (case wc => (first | (simp only [setSlot, startD]; done) | (simp only [setSlot, startD]; rfl) | rfl)); (case wd => (first | exact drp_new | rfl))))) | ((with_reducible refine StG.out ?_); (first | (with_reducible refine w_setIx ?_) | ((with_reducible refine' w_frzS ?wa ?wb ?wc ?wd ?wz); (case wa => rfl); (case wb => (first | assumption | exact look_new)); (case wc => (first | (simp only [setSlot, startD]; done) | (simp only [setSlot, startD]; rfl) | rfl)); (case wd => (first | exact drp_new | rfl))))) | ((with_reducible refine OpG.out ?_); (with_reducible refine w_addM ?_)) | ((with_reducible refine CbG.out ?_); (first | (with_reducible refine w_listM_t ?_) | (with_reducible refine w_listM_l ?_)))))
local macro_rules | `(tactic| walk_at "s1") => `(tactic| (first | ((with_reducible refine ExG.out ?_); (first | (with_reducible refine w_mk0 ?_) | (with_reducible refine w_mkI ?_) | (with_reducible refine w_count ?_))) | ((with_reducible refine w_lenq ?wa ?wz); (case wa => rfl)) | (with_reducible refine w_mCnt ?_)))
local macro_rules | `(tactic| walk_at "s1") => `(tactic| (first | ((with_reducible refine ExG.out ?_); (first | (with_reducible refine w_m1 ?_) | (with_reducible refine w_joinRev ?_) | (with_reducible refine w_fmt ?_) | (with_reducible refine w_joined ?_) | (with_reducible refine w_maxDef ?_))) | (with_reducible refine w_mM1 ?_) | (with_reducible refine w_part ?_) | (with_reducible refine w_starts ?_) | (with_reducible refine w_ends ?_) | (with_reducible refine w_split ?_) | (with_reducible refine w_zfill ?_) | (with_reducible refine w_remSuf ?_) | (with_reducible refine w_mJr ?_) | (with_reducible refine w_mFmtS ?_) | (with_reducible refine w_mFmtI ?_) | (with_reducible refine w_jsN ?_) | (with_reducible refine w_jsC ?_) | (with_reducible refine w_mJs ?_) | (with_reducible refine w_mMaxD ?_) | ((with_reducible refine OpG.out ?_); (first | (with_reducible refine w_inSign ?_) | (with_reducible refine w_notInSign ?_))) | ((with_reducible refine CbG.out ?_); (first | (with_reducible refine w_divmod ?_)))))
local macro_rules | `(tactic| walk_at "s1") => `(tactic| ((with_reducible refine OpG.out ?_); ((with_reducible refine' w_pow ?wa ?wc ?wz); (case wa => decide); (case wc => (first | exact t56 | exact t60 | exact t40 | exact t50 | exact t59)))))
local macro_rules | `(tactic| walk_at "s1") => `(tactic| (first | (with_reducible refine r_frzS ?_) | (with_reducible refine r_setIx ?_) | (with_reducible refine r_lcM ?_) | (with_reducible refine r_m1 ?_) | (with_reducible refine r_joined ?_) | (with_reducible refine r_frz ?_) | (with_reducible refine r_append ?_)))
local macro_rules | `(tactic| walk_at "s1") => `(tactic| (first | ((with_reducible refine ItG.out ?_); (first | (with_reducible refine w_istr ?_) | (with_reducible refine w_irng3 ?_))) | (with_reducible refine w_mStrI ?_)))
local macro_rules | `(tactic| walk_at "s1") => `(tactic| (first | (with_reducible refine w_truB ?_) | (with_reducible refine w_truL ?_) | (with_reducible refine w_truI ?_)))
local macro_rules | `(tactic| walk_at "s1") => `(tactic| ((with_reducible refine TgG.out ?_); (with_reducible refine w_slst ?wa ?wz); (case wa => rfl)))
local macro_rules | `(tactic| walk_at "st") => `(tactic| repeat (walk_at "s1"))
theorem loop_inv {g : DG} {tb : DTS} {E : EN} (I : DS → MS → Prop) : ∀ (xs : List D) (ds : DS) (ms : MS), I ds ms →
    (∀ x ∈ xs, ∀ ds ms, I ds ms → ∀ N : DS → MS → Prop, (∀ ds' ms', I ds' ms' → N ds' ms') → g x ds fun ds1 => tb (EN.lp E N) ds1 ms) →
    (∀ ds ms, I ds ms → E.nx ds ms) → loopD g tb E xs ds ms
  | [], ds, ms, h, _, q => q ds ms h
  | x :: r, ds, ms, h, t, q => t x List.mem_cons_self ds ms h _ fun ds' ms' h' => loop_inv I r ds' ms' h' (fun y hy => t y (List.mem_cons_of_mem _ hy)) q
theorem loop_all {α : Type} {g : DG} {tb : DTS} {E : EN} {ms : MS} (e : α → D) (ok : α → Bool) (I : DS → Prop) : ∀ (xs : List α) (ds : DS), I ds →
    (∀ x ∈ xs, ∀ ds, I ds → ∀ G : DS → MS → Prop, (ok x = true → ∀ ds', I ds' → G ds' ms) → (ok x = false → E.rt (.bl false) ms) → g (e x) ds fun ds1 => tb (EN.lp E G) ds1 ms) →
    (xs.all ok = true → ∀ ds, I ds → E.nx ds ms) → (xs.all ok = false → E.rt (.bl false) ms) → loopD g tb E (xs.map e) ds ms
  | [], ds, h, _, q, _ => q rfl ds h
  | x :: r, ds, h, t, q, q2 => t x List.mem_cons_self ds h _ (fun hx ds' h' => loop_all e ok I r ds' h' (fun y hy => t y (List.mem_cons_of_mem _ hy)) (fun hr => q (by rw [List.all_cons, hx, hr]; rfl)) fun hr => q2 (by rw [List.all_cons, hr, Bool.and_false])) fun hx => q2 (by rw [List.all_cons, hx, Bool.false_and])
theorem filt_empty (p : D → Bool) : ∀ xs : List D, ((xs.filter fun x => !p x).map fun x => x).isEmpty = xs.all p
  | [] => rfl
  | x :: r => by
    rw [List.filter_cons, List.all_cons]
    cases h : p x with
    | true => simp only [Bool.not_true, Bool.false_eq_true, if_false, Bool.true_and]; exact filt_empty p r
    | false => simp
theorem comp_map {g : DG} {te : DE} {ds : DS} {ms : MS} {f : D → D} : ∀ (xs acc : List D) (P : List D → MS → Prop), acc.length + xs.length ≤ 1000000 →
    (∀ x ∈ xs, ∀ P0 : D → MS → Prop, P0 (f x) ms → g x ds fun ds2 => te ds2 ms P0) → P (acc ++ xs.map f) ms → compD g dYes te ds xs acc ms P
  | [], acc, P, _, _, h => by rw [List.map_nil, List.append_nil] at h; exact h
  | x :: r, acc, P, hl, t, h => by
    rw [List.length_cons] at hl
    unfold compD
    simp only [dYes, if_true]
    refine t x List.mem_cons_self _ ⟨Nat.lt_of_lt_of_le (by omega : acc.length < 1000001) (by decide), comp_map r _ P (by rw [List.length_append, List.length_singleton]; omega) (fun y hy => t y (List.mem_cons_of_mem _ hy)) ?_⟩
    rw [List.append_assoc]
    exact h
theorem comp_filter {g : DG} {tt : DT} {te : DE} {ds : DS} {ms : MS} {f : D → D} {c : D → Bool} : ∀ (xs acc : List D) (P : List D → MS → Prop), acc.length + xs.length ≤ 1000000 →
    (∀ x ∈ xs, ∀ (K1 : D → MS → Prop) (K2 : MS → Prop), (c x = true → K1 (f x) ms) → (c x = false → K2 ms) → g x ds fun ds2 => tt ds2 ms fun b m3 => if b = true then te ds2 m3 K1 else K2 m3) →
    P (acc ++ (xs.filter c).map f) ms → compD g tt te ds xs acc ms P
  | [], acc, P, _, _, h => by rw [List.filter_nil, List.map_nil, List.append_nil] at h; exact h
  | x :: r, acc, P, hl, t, h => by
    rw [List.length_cons] at hl
    unfold compD
    refine t x List.mem_cons_self _ _ (fun hc => ⟨Nat.lt_of_lt_of_le (by omega : acc.length < 1000001) (by decide), comp_filter r _ P (by rw [List.length_append, List.length_singleton]; omega) (fun y hy => t y (List.mem_cons_of_mem _ hy)) ?_⟩)
      fun hc => comp_filter r _ P (by omega) (fun y hy => t y (List.mem_cons_of_mem _ hy)) ?_
    · rw [List.append_assoc]
      rw [List.filter_cons, if_pos hc] at h
      exact h
    · rw [List.filter_cons, if_neg (by rw [hc]; exact Bool.false_ne_true)] at h
      exact h
theorem cut_1 {α : Type} (x : α) (r : List α) : cutL (x :: r) (some 1) none = r := by
  unfold cutL
  rw [show HT.sIx (x :: r).length 0 (some 1) = min 1 (x :: r).length from HT.sIx_nat _ 0 1, HT.sIx_none]
  rw [show min 1 (x :: r).length = 1 by rw [List.length_cons]; omega]
  show List.take ((x :: r).length - 1) r = r
  rw [List.length_cons, Nat.add_sub_cancel]
  exact List.take_length
theorem cut_to {α : Type} (xs : List α) (n : Nat) (h : n ≤ xs.length) : cutL xs none (some (n : Int)) = xs.take n := by
  unfold cutL
  rw [show HT.sIx xs.length xs.length (some (n : Int)) = min n xs.length from HT.sIx_nat _ _ n, HT.sIx_none, Nat.min_eq_left h]
  rfl
/-! lowest terms: how large they are -/
theorem fdiv_dvd {g x : Int} (h0 : g ≠ 0) (h : g ∣ x) : ∃ q, x.fdiv g = q ∧ x = g * q ∧ q.natAbs ≤ x.natAbs := by
  obtain ⟨q, rfl⟩ := h
  refine ⟨q, ?_, rfl, ?_⟩
  · rw [Int.mul_comm]; exact Int.mul_fdiv_cancel q h0
  · rw [Int.natAbs_mul]
    exact Nat.le_mul_of_pos_left _ (by omega)
theorem sgcd_dvd (a b : Int) : sgcd a b ∣ a ∧ sgcd a b ∣ b := by
  unfold sgcd
  split
  · exact ⟨Int.neg_dvd.mpr (Int.gcd_dvd_left a b), Int.neg_dvd.mpr (Int.gcd_dvd_right a b)⟩
  · exact ⟨Int.gcd_dvd_left a b, Int.gcd_dvd_right a b⟩
theorem lowT_spec {a b : Int} (h : b ≠ 0) : ∃ x y, lowT a b = (x, y) ∧ a = sgcd a b * x ∧ b = sgcd a b * y ∧ 0 < y ∧ x.natAbs ≤ a.natAbs ∧ y.natAbs ≤ b.natAbs := by
  obtain ⟨d1, d2⟩ := sgcd_dvd a b
  obtain ⟨x, e1, f1, n1⟩ := fdiv_dvd (sgcd_ne (a := a) h) d1
  obtain ⟨y, e2, f2, n2⟩ := fdiv_dvd (sgcd_ne (a := a) h) d2
  refine ⟨x, y, by unfold lowT; rw [e1, e2], f1, f2, ?_, n1, n2⟩
  have hg := sgcd_ne (a := a) h
  by_cases hb : b < 0
  · have hs : sgcd a b < 0 := by
      have : sgcd a b = -(Int.gcd a b : Int) := by unfold sgcd; rw [if_pos hb]
      omega
    refine Int.lt_of_not_ge fun hy => ?_
    have := Int.mul_nonneg_of_nonpos_of_nonpos (Int.le_of_lt hs) hy
    omega
  · have hs : 0 < sgcd a b := by
      have : sgcd a b = (Int.gcd a b : Int) := by unfold sgcd; rw [if_neg hb]
      omega
    refine Int.lt_of_not_ge fun hy => ?_
    have := Int.mul_nonpos_of_nonneg_of_nonpos (Int.le_of_lt hs) hy
    omega
theorem lowT_zero {b : Int} (h : b ≠ 0) : lowT 0 b = (0, 1) := by
  have hg : sgcd 0 b = b := by
    unfold sgcd
    rw [Int.gcd_zero_left]
    split <;> omega
  unfold lowT
  rw [hg, Int.zero_fdiv, Int.fdiv_self h]
/-- a fraction so large -/
structure FB (n m : Nat) (t : Int × Int) : Prop where
  top : Bd n t.1
  bot : Bd m t.2
  pos : 0 < t.2
  nil : t.1 = 0 → t.2 = 1
theorem FB.mono {n m n' m' : Nat} {t : Int × Int} (h : FB n m t) (h1 : n ≤ n') (h2 : m ≤ m') : FB n' m' t := ⟨h.top.mono h1, h.bot.mono h2, h.pos, h.nil⟩
theorem fb_low {n m : Nat} {a b : Int} (ha : Bd n a) (hb : Bd m b) (h : b ≠ 0) : FB n m (lowT a b) := by
  obtain ⟨x, y, e, f1, f2, p, n1, n2⟩ := lowT_spec (a := a) h
  rw [e]
  refine ⟨Nat.lt_of_le_of_lt n1 ha, Nat.lt_of_le_of_lt n2 hb, p, fun z => ?_⟩
  have z' : x = 0 := z
  subst z'
  rw [Int.mul_zero] at f1
  rw [f1, lowT_zero h] at e
  exact (congrArg Prod.snd e).symm
theorem FB.ne {n m : Nat} {t : Int × Int} (h : FB n m t) : t.2 ≠ 0 := by have := h.pos; omega
theorem fb_mul {n m n' m' : Nat} {t u : Int × Int} (h : FB n m t) (h2 : FB n' m' u) : FB (n + n') (m + m') (mulT t u) := fb_low (h.top.mul h2.top) (h.bot.mul h2.bot) (Int.mul_ne_zero h.ne h2.ne)
theorem fb_add {n m n' m' k : Nat} {t u : Int × Int} (h : FB n m t) (h2 : FB n' m' u) (k1 : n + m' ≤ k) (k2 : n' + m ≤ k) : FB (k + 1) (m + m') (addT t u) :=
  fb_low (((h.top.mul h2.bot).mono k1).add ((h2.top.mul h.bot).mono k2)) (h.bot.mul h2.bot) (Int.mul_ne_zero h.ne h2.ne)
theorem sm_fr {n m : Nat} {t : Int × Int} (h : FB n m t) (hn : n ≤ 1900 := by decide) (hm : m ≤ 1900 := by decide) : Sm (fr t) 4014 1 := sm_tup (forall2 (sm_int h.top hn) (sm_int h.bot hm))
theorem fb_int {n : Nat} {a : Int} (h : Bd n a) : FB n 1 (a, 1) := ⟨h, show Bd 1 (1 : Int) by unfold Bd; decide, show (0 : Int) < 1 by decide, fun _ => rfl⟩
/-- a line's worth, as it is added up from the left -/
def worGo : Int × Int → List Int → List (Int × Int) → Int × Int
  | t, f :: fs, n :: ns => worGo (addT t (mulT (f, 1) n)) fs ns
  | t, [], _ => t
  | t, _ :: _, [] => t
def wor (l : Int) (fs : List Int) (ns : List (Int × Int)) : Int × Int := worGo (l, 1) fs ns
theorem fb_worGo {L a b : Nat} : ∀ (fs : List Int) (ns : List (Int × Int)) (t : Int × Int) (N M : Nat), FB N M t → (∀ f ∈ fs, Bd L f) → (∀ n ∈ ns, FB a b n) → L + a + b + M + 2 ≤ N →
    FB (N + (a + b + 2) * fs.length) (M + (b + 1) * fs.length) (worGo t fs ns)
  | [], _, t, N, M, h, _, _, _ => by unfold worGo; exact h.mono (by simp) (by simp)
  | f :: fs, [], t, N, M, h, _, _, _ => by unfold worGo; exact h.mono (Nat.le_add_right _ _) (Nat.le_add_right _ _)
  | f :: fs, n :: ns, t, N, M, h, hf, hn, hN => by
    unfold worGo
    have h1 := fb_mul (fb_int (hf f List.mem_cons_self)) (hn n List.mem_cons_self)
    have h2 := fb_add (k := N + (b + 1)) h h1 (by omega) (by omega)
    have h3 := fb_worGo fs ns _ (N + (a + b + 2)) (M + (b + 1)) (h2.mono (by omega) (by omega)) (fun x hx => hf x (List.mem_cons_of_mem _ hx)) (fun x hx => hn x (List.mem_cons_of_mem _ hx)) (by omega)
    refine h3.mono ?_ ?_
    · rw [List.length_cons, Nat.mul_succ]; omega
    · rw [List.length_cons, Nat.mul_succ]; omega
/-! fractions by their worth -/
def val (p : Int × Int) : Rat := (p.1 : Rat) / (p.2 : Rat)
structure Low (p : Int × Int) : Prop where
  pos : 0 < p.2
  cop : Int.gcd p.1 p.2 = 1
theorem rne {b : Int} (h : b ≠ 0) : (b : Rat) ≠ 0 := fun z => h (Rat.intCast_inj.mp (z.trans Rat.intCast_zero.symm))
theorem sgcd_abs (a b : Int) : (sgcd a b).natAbs = Int.gcd a b := by
  unfold sgcd; split <;> omega
theorem low_low {a b : Int} (h : b ≠ 0) : Low (lowT a b) := by
  obtain ⟨x, y, e, f1, f2, p, _, _⟩ := lowT_spec (a := a) h
  rw [e]
  refine ⟨p, ?_⟩
  have hg := sgcd_ne (a := a) h
  have h1 : Int.gcd (sgcd a b * x) (sgcd a b * y) = (sgcd a b).natAbs * Int.gcd x y := Int.gcd_mul_left ..
  rw [← f1, ← f2, sgcd_abs] at h1
  have hg2 : 0 < Int.gcd a b := by rw [← sgcd_abs]; omega
  have h2 : Int.gcd a b * 1 = Int.gcd a b * Int.gcd x y := by omega
  exact (Nat.eq_of_mul_eq_mul_left hg2 h2).symm
theorem val_low {a b : Int} (h : b ≠ 0) : val (lowT a b) = (a : Rat) / (b : Rat) := by
  obtain ⟨x, y, e, f1, f2, p, _, _⟩ := lowT_spec (a := a) h
  have hg := sgcd_ne (a := a) h
  rw [e]
  show (x : Rat) / (y : Rat) = _
  have hy : (y : Rat) ≠ 0 := rne (by omega)
  have hgr : (sgcd a b : Rat) ≠ 0 := rne hg
  have ha : (a : Rat) = (sgcd a b : Rat) * (x : Rat) := by rw [← Rat.intCast_mul, ← f1]
  have hb : (b : Rat) = (sgcd a b : Rat) * (y : Rat) := by rw [← Rat.intCast_mul, ← f2]
  rw [ha, hb]
  generalize (sgcd a b : Rat) = g at *
  generalize (x : Rat) = u at *
  generalize (y : Rat) = v at *
  grind
theorem cross_eq {p q : Int × Int} (hp : 0 < p.2) (hq : 0 < q.2) : val p = val q ↔ p.1 * q.2 = q.1 * p.2 := by
  have h1 : (p.2 : Rat) ≠ 0 := rne (by omega)
  have h2 : (q.2 : Rat) ≠ 0 := rne (by omega)
  unfold val
  rw [← Rat.intCast_inj, Rat.intCast_mul, Rat.intCast_mul]
  generalize (p.1 : Rat) = a at *
  generalize (p.2 : Rat) = b at *
  generalize (q.1 : Rat) = c at *
  generalize (q.2 : Rat) = d at *
  constructor
  · intro h
    grind
  · intro h
    grind
theorem rpos {b : Int} (h : 0 < b) : (0 : Rat) < (b : Rat) := by
  rw [← Rat.intCast_zero]; exact Rat.intCast_lt_intCast.mpr h
theorem cross_lt {p q : Int × Int} (hp : 0 < p.2) (hq : 0 < q.2) : val p < val q ↔ p.1 * q.2 < q.1 * p.2 := by
  have h1 := rpos hp
  have h2 := rpos hq
  unfold val
  rw [← Rat.intCast_lt_intCast, Rat.intCast_mul, Rat.intCast_mul]
  generalize (p.1 : Rat) = a at *
  generalize (p.2 : Rat) = b at *
  generalize (q.1 : Rat) = c at *
  generalize (q.2 : Rat) = d at *
  rw [Rat.div_lt_iff h1]
  have e : c / d * b = (c * b) / d := by grind
  rw [e, Rat.lt_div_iff h2]
theorem val_inj {p q : Int × Int} (hp : Low p) (hq : Low q) (h : val p = val q) : p = q := by
  have h := (cross_eq hp.pos hq.pos).mp h
  obtain ⟨a, b⟩ := p
  obtain ⟨c, d⟩ := q
  obtain ⟨p1, p2⟩ := hp
  obtain ⟨q1, q2⟩ := hq
  simp only at *
  have d1 : b ∣ d := by
    have : b ∣ a * d := ⟨c, by rw [h, Int.mul_comm]⟩
    have h3 := Int.dvd_gcd_mul_iff_dvd_mul.mpr this
    rw [Int.gcd_comm, p2] at h3
    simpa using h3
  have d2 : d ∣ b := by
    have : d ∣ c * b := ⟨a, by rw [← h, Int.mul_comm]⟩
    have h3 := Int.dvd_gcd_mul_iff_dvd_mul.mpr this
    rw [Int.gcd_comm, q2] at h3
    simpa using h3
  have hbd : b = d := Int.dvd_antisymm (by omega) (by omega) d1 d2
  subst hbd
  have : a = c := Int.eq_of_mul_eq_mul_right (by omega) h
  rw [this]
theorem val_int (a : Int) : val (a, 1) = (a : Rat) := by unfold val; simp; grind
theorem low_int (a : Int) : Low (a, 1) := ⟨(show (0 : Int) < 1 by decide), by simp⟩
theorem low_add {p q : Int × Int} (hp : p.2 ≠ 0) (hq : q.2 ≠ 0) : Low (addT p q) := low_low (Int.mul_ne_zero hp hq)
theorem low_mul {p q : Int × Int} (hp : p.2 ≠ 0) (hq : q.2 ≠ 0) : Low (mulT p q) := low_low (Int.mul_ne_zero hp hq)
theorem val_add {p q : Int × Int} (hp : p.2 ≠ 0) (hq : q.2 ≠ 0) : val (addT p q) = val p + val q := by
  unfold addT
  rw [val_low (Int.mul_ne_zero hp hq)]
  have h1 := rne hp
  have h2 := rne hq
  unfold val
  rw [Rat.intCast_add, Rat.intCast_mul, Rat.intCast_mul, Rat.intCast_mul]
  generalize (p.1 : Rat) = a at *
  generalize (p.2 : Rat) = b at *
  generalize (q.1 : Rat) = c at *
  generalize (q.2 : Rat) = d at *
  grind
theorem val_mul {p q : Int × Int} (hp : p.2 ≠ 0) (hq : q.2 ≠ 0) : val (mulT p q) = val p * val q := by
  unfold mulT
  rw [val_low (Int.mul_ne_zero hp hq)]
  have h1 := rne hp
  have h2 := rne hq
  unfold val
  rw [Rat.intCast_mul, Rat.intCast_mul]
  generalize (p.1 : Rat) = a at *
  generalize (p.2 : Rat) = b at *
  generalize (q.1 : Rat) = c at *
  generalize (q.2 : Rat) = d at *
  grind
theorem Low.ne {p : Int × Int} (h : Low p) : p.2 ≠ 0 := by have := h.pos; omega
theorem low_self' {p : Int × Int} (h : Low p) : lowT p.1 p.2 = p := val_inj (low_low h.ne) h (by rw [val_low h.ne]; rfl)
theorem val_nonneg {p : Int × Int} (h : 0 < p.2) : 0 ≤ val p ↔ 0 ≤ p.1 := by
  have := cross_lt (p := p) (q := (0, 1)) h (by decide)
  have e : val (0, 1) = 0 := by rw [val_int]; rfl
  rw [e] at this
  simp only [Int.mul_one, Int.zero_mul] at this
  rw [← Rat.not_lt, this]
  omega
theorem val_nought {p : Int × Int} (h : Low p) : val p = 0 ↔ p = (0, 1) := by
  have e : val (0, 1) = 0 := by rw [val_int]; rfl
  exact ⟨fun z => val_inj h (low_int 0) (z.trans e.symm), fun z => by rw [z, e]⟩
/-! programs: wishes, rows, names -/
/-- a wish: least or just -/
def wdD (j : Bool) : D := .str (if j then "just" else "least")
/-- wishes, as they are drawn -/
structure Wi where
  j : Bool
  l : Int
  fs : List Int
def wiD (w : Wi) : D := .tup [wdD w.j, .lst (.int w.l :: w.fs.map D.int)]
def Wi.ls (w : Wi) : List Int := w.l :: w.fs
theorem wiD_ls (w : Wi) : wiD w = .tup [wdD w.j, .lst (w.ls.map D.int)] := rfl
structure Rw where
  s : Int
  t : Int
  ws : List Wi
def rwD (r : Rw) : D := .tup [.int r.s, .int r.t, .lst (r.ws.map wiD)]
structure Pg where
  nm : List Str
  pm : List Str
  rs : List Rw
def pgD (g : Pg) : D := .tup [.lst (g.nm.map D.str), .lst (g.pm.map D.str), .lst (g.rs.map rwD)]
/-- a name: one to six small letters -/
def goodNm (x : Str) : Bool := decide (1 ≤ x.length) && decide (x.length ≤ 6) && x.cps.toList.all fun c => decide (97 ≤ c) && decide (c < 123)
structure NmOk (most : Nat) (xs : List Str) : Prop where
  l1 : 1 ≤ xs.length
  l2 : xs.length ≤ most
  nd : xs.Nodup
  ok : ∀ x ∈ xs, goodNm x = true
structure WiOk (B n : Nat) (w : Wi) : Prop where
  bd : ∀ x ∈ w.ls, Bd B x
  ln : w.fs.length = n
structure RwOk (B sz pl : Nat) (r : Rw) : Prop where
  s0 : 0 ≤ r.s
  s1 : r.s < pl
  t0 : 0 ≤ r.t
  t1 : r.t < pl
  wl : r.ws.length ≤ 12
  wo : ∀ w ∈ r.ws, WiOk B (2 * sz) w
structure PgOk (B : Nat) (g : Pg) : Prop where
  nm : NmOk 3 g.nm
  pm : NmOk 6 g.pm
  rl : g.rs.length ≤ 10
  ro : ∀ r ∈ g.rs, RwOk B g.nm.length g.pm.length r
theorem WiOk.mono {B B' n : Nat} {w : Wi} (h : WiOk B n w) (hb : B ≤ B') : WiOk B' n w := ⟨fun x hx => (h.bd x hx).mono hb, h.ln⟩
/-- the number of one of so many -/
def isAt (n : Int) (d : D) : Bool := match d with
  | .int i => decide (0 ≤ i) && decide (i < n)
  | _ => false
theorem take_len {α : Type} {xs : List α} {n : Nat} (h : n ≤ xs.length) : (xs.take n).length = n := by rw [List.length_take]; omega
theorem nm_ok {x : Str} (h : goodNm x = true) : x.cps.all (· < 0x110000) = true := by
  unfold goodNm at h
  rw [Bool.and_eq_true_iff, Bool.and_eq_true_iff] at h
  obtain ⟨⟨h1, h2⟩, h3⟩ := h
  rw [Array.all_eq_true']
  intro c hc
  have h4 := List.all_eq_true.mp h3 c (Array.mem_toList_iff.mpr hc)
  rw [Bool.and_eq_true_iff] at h4
  have h5 := of_decide_eq_true h4.2
  exact decide_eq_true (by omega)
theorem enum_mem {α : Type} {f : α → D} {xs : List α} {d : D} (h : d ∈ enumD (xs.map f)) : ∃ (k : Nat) (hk : k < xs.length), d = .tup [.int (k : Int), f xs[k]] := by
  unfold enumD at h
  obtain ⟨k, hk, e⟩ := List.mem_iff_getElem.mp h
  rw [List.length_zipWith, rng_len, List.length_map] at hk
  have hk' : k < xs.length := by omega
  refine ⟨k, hk', ?_⟩
  rw [List.getElem_zipWith] at e
  rw [← e]
  unfold rng
  simp
theorem rep_flat0 (n : Nat) : (List.replicate n [D.int 0]).flatten = (List.replicate n (0 : Int)).map D.int := by
  rw [List.map_replicate]
  induction n with
  | zero => rfl
  | succ n ih => rw [List.replicate_succ, List.flatten_cons, ih, List.replicate_succ]; rfl
theorem zeros_ok {n : Int} (h0 : 0 ≤ n) (h1 : n ≤ 100) : (-(2 ^ 63) ≤ n ∧ n < 2 ^ 63 ∧ [D.int 0].length * n.toNat ≤ sizeLine) := ⟨by omega, by omega, Nat.le_trans (show 1 * n.toNat ≤ 100 by omega) (by decide)⟩
theorem size_ok {n : Nat} (h : n ≤ 1000) : n ≤ sizeLine := Nat.le_trans h (by decide)
/-- a weighing: a line for each place -/
abbrev Tb := List (Int × List Int)
def lnT (p : Int × List Int) : D := .lst ((p.1 :: p.2).map D.int)
def tbD (t : Tb) : D := .lst (t.map lnT)
structure TbOk (B n : Nat) (t : Tb) : Prop where
  bd : ∀ p ∈ t, ∀ x ∈ p.1 :: p.2, Bd B x
  ln : ∀ p ∈ t, p.2.length = n
theorem tb_at {t : Tb} {i : Int} (h0 : 0 ≤ i) (h1 : i < (t.length : Int)) : ∃ p ∈ t, t[i.toNat]? = some p ∧ atI (t.map lnT) i = some (lnT p) := by
  obtain ⟨j, rfl⟩ : ∃ j : Nat, i = (j : Int) := ⟨i.toNat, by omega⟩
  have hj : j < t.length := by omega
  refine ⟨t[j], List.getElem_mem hj, List.getElem?_eq_getElem hj, atI_nat ?_⟩
  rw [List.getElem?_map, List.getElem?_eq_getElem hj]; rfl
theorem all_true {α : Type} (f : α → D) (hf : ∀ x, f x = .bl true) : ∀ xs : List α, ∃ bs, blsOf (xs.map f) = some bs ∧ bs.all id = true
  | [] => ⟨[], rfl, rfl⟩
  | x :: r => by
    obtain ⟨bs, e, h⟩ := all_true f hf r
    exact ⟨true :: bs, by rw [List.map_cons, hf x]; unfold blsOf; rw [e]; rfl, h⟩
theorem isAt_int {n : Nat} {e : D} (h : isAt (n : Int) e = true) : ∃ i : Nat, e = .int (i : Int) ∧ i < n := by
  cases e with
  | int i =>
    have h : (decide (0 ≤ i) && decide (i < (n : Int))) = true := h
    rw [Bool.and_eq_true_iff] at h
    have h1 := of_decide_eq_true h.1
    have h2 := of_decide_eq_true h.2
    exact ⟨i.toNat, by rw [Int.toNat_of_nonneg h1], by omega⟩
  | _ => cases h
theorem mem_at {α : Type} {xs : List α} {i : Nat} {x : α} (h : xs[i]? = some x) : x ∈ xs := by
  obtain ⟨hi, e⟩ := List.getElem?_eq_some_iff.mp h
  exact e ▸ List.getElem_mem hi
/-! data that repr shows, piece by piece -/
structure Gds (xs : List D) (n k : Nat) : Prop where
  pl : plains xs = true
  ex : ∃ ps, toPys xs = some ps ∧ lay1s ps = true ∧ PyData.showableAll ps = true ∧ wts ps ≤ n ∧ PyData.depthAll ps ≤ k
theorem gds_nil {k : Nat} : Gds [] 0 k := ⟨rfl, [], rfl, rfl, rfl, Nat.zero_le _, Nat.zero_le _⟩
theorem gds_cons {x : D} {r : List D} {n m k : Nat} (h : Gd x n k) (t : Gds r m k) : Gds (x :: r) (n + 2 + m) k := by
  obtain ⟨p, a, b, c, e, f⟩ := h.sd.ex
  obtain ⟨pt, ps, a2, b2, c2, e2, f2⟩ := t
  refine ⟨Bool.and_eq_true_iff.mpr ⟨h.pl, pt⟩, p :: ps, by unfold toPys; rw [a, a2], Bool.and_eq_true_iff.mpr ⟨b, b2⟩, Bool.and_eq_true_iff.mpr ⟨c, c2⟩, ?_, Nat.max_le.mpr ⟨f, f2⟩⟩
  show wt p + 2 + wts ps ≤ n + 2 + m
  omega
theorem gd_tupS {xs : List D} {n k : Nat} (h : Gds xs n k) : Gd (.tup xs) (n + 10) (k + 1) := by
  obtain ⟨pt, ps, a, b, c, e, f⟩ := h
  refine ⟨pt, .tuple ps, by unfold toPy; rw [a]; rfl, b, c, ?_, Nat.succ_le_succ f⟩
  show wts ps + 10 ≤ _
  omega
theorem gd_lstS {xs : List D} {n k : Nat} (h : Gds xs n k) : Gd (.lst xs) (n + 10) (k + 1) := by
  obtain ⟨pt, ps, a, b, c, e, f⟩ := h
  refine ⟨pt, .list ps, by unfold toPy; rw [a]; rfl, b, c, ?_, Nat.succ_le_succ f⟩
  show wts ps + 10 ≤ _
  omega
theorem gd_nm {x : Str} (h : goodNm x = true) : Gd (.str x) 70 0 := by
  have h0 := nm_ok h
  unfold goodNm at h
  rw [Bool.and_eq_true_iff, Bool.and_eq_true_iff] at h
  have h2 := of_decide_eq_true h.1.2
  exact (gd_str x h0).mono (by omega) (by decide)
theorem gd_ints {n : Nat} {is : List Int} (h : ∀ i ∈ is, Bd n i) (hn : n ≤ 1900 := by decide) : ∀ x ∈ is.map D.int, Gd x 2000 0 := fun x hx => by
  obtain ⟨i, hi, rfl⟩ := List.mem_map.mp hx
  exact gd_int (h i hi) hn
theorem gd_line {n m : Nat} {is : List Int} (h : ∀ i ∈ is, Bd n i) (hl : is.length ≤ m) (hn : n ≤ 1900 := by decide) : Gd (.lst (is.map D.int)) (2002 * m + 10) 1 :=
  (gd_lst (gd_ints h hn)).mono (by rw [List.length_map]; exact Nat.add_le_add_right (Nat.mul_le_mul_left _ hl) _) (by decide)
theorem gd_wi {B n : Nat} {w : Wi} (h : WiOk B n w) (hn : n ≤ 6) (hB : B ≤ 1900 := by decide) : Gd (wiD w) 14200 2 := by
  have g1 := gd_line (m := 7) h.bd (by have := h.ln; show w.fs.length + 1 ≤ 7; omega) hB
  have g2 : Gd (wdD w.j) 60 0 := by
    unfold wdD
    cases w.j
    · exact (gd_lit "least").mono (by decide +kernel) (by decide)
    · exact (gd_lit "just").mono (by decide +kernel) (by decide)
  rw [wiD_ls]
  exact (gd_tupS (gds_cons (g2.mono (Nat.le_refl _) (by decide)) (gds_cons g1 gds_nil))).mono (by decide) (by decide)
theorem gd_rw {B sz pl : Nat} {r : Rw} (h : RwOk B sz pl r) (hsz : sz ≤ 3) (hpl : pl ≤ 6) (hB : B ≤ 1900 := by decide) : Gd (rwD r) 175000 4 := by
  have g1 : Gd (.lst (r.ws.map wiD)) 170434 3 := by
    refine (gd_lst (n := 14200) (k := 2) fun x hx => ?_).mono ?_ (by decide)
    · obtain ⟨w, hw, rfl⟩ := List.mem_map.mp hx
      exact gd_wi (h.wo w hw) (by omega) hB
    · have := h.wl
      rw [List.length_map]; omega
  have g2 : ∀ i : Int, 0 ≤ i → i < pl → Gd (.int i) 2000 3 := fun i h0 h1 => (gd_int (n := 3) (by unfold Bd; omega)).mono (by decide) (by decide)
  exact (gd_tupS (gds_cons (g2 _ h.s0 h.s1) (gds_cons (g2 _ h.t0 h.t1) (gds_cons g1 gds_nil)))).mono (by decide) (by decide)
theorem gd_nms {most : Nat} {xs : List Str} (h : NmOk most xs) (hm : most ≤ 6) : Gd (.lst (xs.map D.str)) 442 1 := by
  refine (gd_lst (n := 70) (k := 0) fun x hx => ?_).mono ?_ (by decide)
  · obtain ⟨s, hs, rfl⟩ := List.mem_map.mp hx
    exact gd_nm (h.ok s hs)
  · have := h.l2
    rw [List.length_map]; omega
theorem gd_pg {B : Nat} {g : Pg} (h : PgOk B g) (hB : B ≤ 1900 := by decide) : Gd (pgD g) 1800000 6 := by
  have g1 : Gd (.lst (g.rs.map rwD)) 1750030 5 := by
    refine (gd_lst (n := 175000) (k := 4) fun x hx => ?_).mono ?_ (by decide)
    · obtain ⟨r, hr, rfl⟩ := List.mem_map.mp hx
      exact gd_rw (h.ro r hr) h.nm.l2 h.pm.l2 hB
    · have := h.rl
      rw [List.length_map]; omega
  exact (gd_tupS (gds_cons ((gd_nms h.nm (by decide)).mono (Nat.le_refl _) (by decide)) (gds_cons ((gd_nms h.pm (by decide)).mono (Nat.le_refl _) (by decide)) (gds_cons g1 gds_nil)))).mono (by decide) (by decide)
def mStarA (da : DA) (ds : DS) (d : D) (m : MS) (P : List D → MS → Prop) : Prop := match asT d m with
  | some xs => da ds m fun ys m2 => P (xs ++ ys) m2
  | none => False
theorem w_aStar {de : DE} {da : DA} {ds : DS} {ms : MS} {P : List D → MS → Prop} (h : ExG de ds ms fun d m => mStarA da ds d m P) : ArG (aStar de da) ds ms P := h
theorem w_mStarA {da : DA} {ds : DS} {m : MS} {xs : List D} {P : List D → MS → Prop} (h : ArG da ds m fun ys m2 => P (xs ++ ys) m2) : mStarA da ds (.lst xs) m P := h
local macro_rules | `(tactic| walk_at "s1") => `(tactic| (first | (with_reducible refine w_aStar ?_) | (with_reducible refine w_mStarA ?_)))
local macro_rules | `(tactic| walk_at "s1") => `(tactic| (first | ((with_reducible refine ExG.out ?_); (first | (with_reducible refine w_pickZ ?_) | (with_reducible refine w_clear ?_) | (with_reducible refine w_listR ?_))) | (with_reducible refine w_mPickZ0 ?_) | (with_reducible refine w_mPickZ1 ?_) | ((with_reducible refine' w_mPickA ?wa ?wb ?wz); (case wa => rfl); (case wb => rfl)) | ((with_reducible refine' w_mClear ?wa ?wb ?wz); (case wa => (first | assumption | exact look_new)); (case wb => (first | exact put_new | rfl)))))
local macro_rules | `(tactic| walk_at "s1") => `(tactic| (first | ((with_reducible refine ExG.out ?_); (with_reducible refine w_index ?_)) | ((with_reducible refine ExG.out ?_); (with_reducible refine w_sortSet ?_)) | (with_reducible refine w_mIndex ?_)))
theorem gd_frac {n m : Nat} {t : Int × Int} (h : FB n m t) (hn : n ≤ 1900 := by decide) (hm : m ≤ 1900 := by decide) : Gd (fr t) 4014 1 := (gd_tup (all_cons (gd_int h.top hn) (all_cons (gd_int h.bot hm) all_nil))).mono (by simp) (by decide)
/-! ### any data of a size -/
inductive Any (c : Bool) (n L : Nat) : Nat → D → Prop
  | non {k : Nat} : Any c n L k .non
  | bl {k : Nat} (b : Bool) : Any c n L k (.bl b)
  | int {k : Nat} {i : Int} : Bd n i → Any c n L k (.int i)
  | str {k : Nat} {x : Str} : x.length ≤ L → x.cps.all (· < 0x110000) = true → Any c n L k (.str x)
  | edic {k : Nat} : c = true → Any c n L k .edic
  | lst {k : Nat} {xs : List D} : xs.length ≤ L → (∀ x ∈ xs, Any c n L k x) → Any c n L (k + 1) (.lst xs)
  | tup {k : Nat} {xs : List D} : xs.length ≤ L → (∀ x ∈ xs, Any c n L k x) → Any c n L (k + 1) (.tup xs)
theorem Any.mono {c c' : Bool} {n n' L L' k : Nat} {d : D} (h : Any c n L k d) (hc : c = true → c' = true) (hn : n ≤ n') (hL : L ≤ L') : ∀ {k' : Nat}, k ≤ k' → Any c' n' L' k' d := by
  induction h with
  | non => intro k' _; exact .non
  | bl b => intro k' _; exact .bl b
  | int h => intro k' _; exact .int (h.mono hn)
  | str h1 h2 => intro k' _; exact .str (by omega) h2
  | edic h => intro k' _; exact .edic (hc h)
  | lst h1 h2 ih =>
    intro k' hk
    obtain ⟨j, rfl⟩ : ∃ j, k' = j + 1 := ⟨k' - 1, by omega⟩
    exact .lst (by omega) fun x hx => ih x hx (by omega)
  | tup h1 h2 ih =>
    intro k' hk
    obtain ⟨j, rfl⟩ : ∃ j, k' = j + 1 := ⟨k' - 1, by omega⟩
    exact .tup (by omega) fun x hx => ih x hx (by omega)
theorem Any.up {c : Bool} {n L k k' : Nat} {d : D} (h : Any c n L k d) (hk : k ≤ k') : Any c n L k' d := h.mono id (Nat.le_refl _) (Nat.le_refl _) hk
theorem Any.ty {c : Bool} {n L k : Nat} {d : D} (h : Any c n L k d) : ∃ a, tyD d = some a := by cases h <;> exact ⟨_, rfl⟩
theorem any_pys {c : Bool} {n L k : Nat} : ∀ xs : List D, (∀ x ∈ xs, c = false → ∃ p, toPy x = some p ∧ p.canLay0 = true ∧ p.depth ≤ k) → c = false → ∃ ps, toPys xs = some ps ∧ PyData.canLayAll0 ps = true ∧ PyData.depthAll ps ≤ k
  | [], _, _ => ⟨[], rfl, rfl, Nat.zero_le _⟩
  | x :: r, h, hc => by
    obtain ⟨p, a, b, e⟩ := h x List.mem_cons_self hc
    obtain ⟨ps, a2, b2, e2⟩ := any_pys (n := n) (L := L) r (fun y hy => h y (List.mem_cons_of_mem _ hy)) hc
    exact ⟨p :: ps, by unfold toPys; rw [a, a2], Bool.and_eq_true_iff.mpr ⟨b, b2⟩, Nat.max_le.mpr ⟨e, e2⟩⟩
theorem Any.py {c : Bool} {n L k : Nat} {d : D} (h : Any c n L k d) : c = false → ∃ p, toPy d = some p ∧ p.canLay0 = true ∧ p.depth ≤ k := by
  induction h with
  | non => exact fun _ => ⟨_, rfl, rfl, Nat.zero_le _⟩
  | bl b => exact fun _ => ⟨_, rfl, rfl, Nat.zero_le _⟩
  | int h => exact fun _ => ⟨_, rfl, rfl, Nat.zero_le _⟩
  | str h1 h2 => exact fun _ => ⟨_, rfl, h2, Nat.zero_le _⟩
  | edic h => exact fun hc => by rw [hc] at h; cases h
  | lst h1 h2 ih =>
    intro hc
    obtain ⟨ps, a, b, e⟩ := any_pys (n := n) (L := L) _ ih hc
    exact ⟨.list ps, by unfold toPy; rw [a]; rfl, b, Nat.succ_le_succ e⟩
  | tup h1 h2 ih =>
    intro hc
    obtain ⟨ps, a, b, e⟩ := any_pys (n := n) (L := L) _ ih hc
    exact ⟨.tuple ps, by unfold toPy; rw [a]; rfl, b, Nat.succ_le_succ e⟩
theorem Any.sh {n L k : Nat} {d : D} (h : Any false n L k d) (hk : k ≤ 60) : ShD d := by
  obtain ⟨p, a, b, e⟩ := h.py rfl
  refine ⟨p, a, ?_⟩
  unfold SeqAt.shaped
  rw [b, decide_eq_true (by omega : p.depth ≤ 64)]; rfl
/-- any data: ints below 2 ^ n -/
structure AnyX (n : Nat) (d : D) : Prop where
  ex : ∃ k, Any true n 1000 k d
theorem AnyX.ty {n : Nat} {d : D} (h : AnyX n d) : ∃ a, tyD d = some a := h.ex.elim fun _ h => h.ty
theorem AnyX.mono {n n' : Nat} {d : D} (h : AnyX n d) (hn : n ≤ n') : AnyX n' d := h.ex.elim fun k h => ⟨k, h.mono id hn (Nat.le_refl _) (Nat.le_refl _)⟩
theorem AnyX.lst {n : Nat} {xs : List D} (h : AnyX n (.lst xs)) : xs.length ≤ 1000 ∧ ∀ x ∈ xs, AnyX n x := h.ex.elim fun k h => by
  cases h with
  | lst h1 h2 => exact ⟨h1, fun x hx => ⟨_, h2 x hx⟩⟩
theorem AnyX.tup {n : Nat} {xs : List D} (h : AnyX n (.tup xs)) : xs.length ≤ 1000 ∧ ∀ x ∈ xs, AnyX n x := h.ex.elim fun k h => by
  cases h with
  | tup h1 h2 => exact ⟨h1, fun x hx => ⟨_, h2 x hx⟩⟩
theorem AnyX.int {n : Nat} {i : Int} (h : AnyX n (.int i)) : Bd n i := h.ex.elim fun k h => by
  cases h with
  | int h => exact h
theorem AnyX.int' {n : Nat} {i : Int} (h : Bd n i) : AnyX n (.int i) := ⟨0, .int h⟩
theorem AnyX.tup2 {n : Nat} {x y : D} (h1 : AnyX n x) (h2 : AnyX n y) : AnyX n (.tup [x, y]) := by
  obtain ⟨k1, h1⟩ := h1.ex
  obtain ⟨k2, h2⟩ := h2.ex
  refine ⟨max k1 k2 + 1, .tup (by simp) fun z hz => ?_⟩
  simp only [List.mem_cons, List.not_mem_nil, or_false] at hz
  rcases hz with rfl | rfl
  · exact h1.up (Nat.le_max_left ..)
  · exact h2.up (Nat.le_max_right ..)
theorem anyx_all {n : Nat} : ∀ xs : List D, (∀ x ∈ xs, AnyX n x) → ∃ k, ∀ x ∈ xs, Any true n 1000 k x
  | [], _ => ⟨0, fun x h => by cases h⟩
  | x :: r, h => by
    obtain ⟨k1, h1⟩ := (h x List.mem_cons_self).ex
    obtain ⟨k2, h2⟩ := anyx_all r fun y hy => h y (List.mem_cons_of_mem _ hy)
    refine ⟨max k1 k2, fun z hz => ?_⟩
    rcases List.mem_cons.mp hz with rfl | hz
    · exact h1.up (Nat.le_max_left ..)
    · exact (h2 z hz).up (Nat.le_max_right ..)
theorem AnyX.mkL {n : Nat} {xs : List D} (hl : xs.length ≤ 1000) (h : ∀ x ∈ xs, AnyX n x) : AnyX n (.lst xs) := (anyx_all xs h).elim fun k h => ⟨k + 1, .lst hl h⟩
theorem AnyX.mkT {n : Nat} {xs : List D} (hl : xs.length ≤ 1000) (h : ∀ x ∈ xs, AnyX n x) : AnyX n (.tup xs) := (anyx_all xs h).elim fun k h => ⟨k + 1, .tup hl h⟩
/-- the truth of a claim -/
noncomputable def tf (G : Prop) : Bool := @decide G (Classical.propDecidable G)
theorem tf_iff {G : Prop} : tf G = true ↔ G := by unfold tf; exact @decide_eq_true_iff G (Classical.propDecidable G)
theorem tf_yes {G : Prop} (h : G) : tf G = true := tf_iff.mpr h
theorem tf_no {G : Prop} (h : ¬ G) : tf G = false := by
  cases e : tf G with
  | false => rfl
  | true => exact absurd (tf_iff.mp e) h
theorem tf_f {G : Prop} {ms : MS} {Q : D → MS → Prop} (h : Q (.bl (tf G)) ms) (n : ¬ G) : Q (.bl false) ms := tf_no n ▸ h
theorem tf_t {G : Prop} {ms : MS} {Q : D → MS → Prop} (h : Q (.bl (tf G)) ms) (n : G) : Q (.bl true) ms := tf_yes n ▸ h
theorem tf_e {G : Prop} {ms : MS} {Q : D → MS → Prop} {b : Bool} (h : Q (.bl (tf G)) ms) (e : b = true ↔ G) : Q (.bl b) ms := by
  have : b = tf G := by rw [Bool.eq_iff_iff, tf_iff]; exact e
  rw [this]; exact h
/-- row numbers -/
def natL (is : List Nat) : List D := is.map fun (k : Nat) => D.int (k : Int)
theorem natL_inj : ∀ {is js : List Nat}, natL is = natL js → is = js
  | [], [], _ => rfl
  | [], _ :: _, h => by cases h
  | _ :: _, [], h => by cases h
  | s :: ss, t :: ts, h => by
    have h : D.int (s : Int) :: natL ss = D.int (t : Int) :: natL ts := h
    injection h with h1 h2
    injection h1 with h1
    rw [natL_inj h2, Int.ofNat_inj.mp h1]
theorem zipD_mp {α β : Type} (f : α → D) (g : β → D) : ∀ (as : List α) (bs : List β), zipD (as.map f) (bs.map g) = (as.zip bs).map fun p => .tup [f p.1, g p.2]
  | [], _ => rfl
  | _ :: _, [] => rfl
  | a :: as, b :: bs => by
    rw [List.map_cons, List.map_cons, List.zip_cons_cons, List.map_cons, ← zipD_mp f g as bs]
    rfl
theorem zipD_m1 {α : Type} (f : α → D) (as : List α) (bs : List D) : zipD (as.map f) bs = (as.zip bs).map fun p => .tup [f p.1, p.2] := by
  have := zipD_mp f (fun x : D => x) as bs
  rw [List.map_id'] at this
  exact this
theorem tfs_all {α : Type} (G : α → Prop) : ∀ xs : List α, (xs.all fun x => tf (G x)) = true ↔ ∀ x ∈ xs, G x
  | [] => ⟨fun _ x h => (by cases h), fun _ => rfl⟩
  | x :: r => by
    rw [List.all_cons, Bool.and_eq_true_iff, tf_iff, tfs_all G r]
    exact ⟨fun h y hy => (List.mem_cons.mp hy).elim (fun e => e ▸ h.1) (h.2 y), fun h => ⟨h x List.mem_cons_self, fun y hy => h y (List.mem_cons_of_mem _ hy)⟩⟩
theorem all_id {α : Type} (f : α → Bool) (xs : List α) : (xs.map f).all id = xs.all f := by rw [List.all_map]; rfl
local macro_rules | `(tactic| walk_at "s1") => `(tactic| (first | ((with_reducible refine ExG.out ?_); (with_reducible refine w_revL ?_)) | (with_reducible refine w_mRevL ?_)))
theorem loop_allD {g : DG} {tb : DTS} {E : EN} {ms : MS} (ok : D → Bool) (I : DS → Prop) (xs : List D) (ds : DS) (h : I ds)
    (t : ∀ x ∈ xs, ∀ ds, I ds → ∀ G : DS → MS → Prop, (ok x = true → ∀ ds', I ds' → G ds' ms) → (ok x = false → E.rt (.bl false) ms) → g x ds fun ds1 => tb (EN.lp E G) ds1 ms)
    (q : xs.all ok = true → ∀ ds, I ds → E.nx ds ms) (q2 : xs.all ok = false → E.rt (.bl false) ms) : loopD g tb E xs ds ms := by
  have := loop_all (g := g) (tb := tb) (E := E) (ms := ms) (fun x : D => x) ok I xs ds h t q q2
  rwa [List.map_id'] at this

/-! ### the text -/
def topS (i : Nat) : Stmt := PySem.Challenge.pw_downweigh_k61_rounds_looked_at.main.body.getD i (.Pass ⟨0, 0, 0, 0⟩)
abbrev s_p_is_whole : Stmt := topS 7
theorem sc_p_is_whole : FnScope ["thing"] ["thing"] (defScope s_p_is_whole) :=
  ⟨rfl, rfl, rfl, by decide +kernel, rfl, by decide +kernel, by decide +kernel⟩
abbrev s_p_common : Stmt := topS 8
theorem sc_p_common : FnScope ["one", "other"] ["one", "other"] (defScope s_p_common) :=
  ⟨rfl, rfl, rfl, by decide +kernel, rfl, by decide +kernel, by decide +kernel⟩
abbrev s_p_is_fraction : Stmt := topS 9
theorem sc_p_is_fraction : FnScope ["thing", "top", "bottom"] ["thing"] (defScope s_p_is_fraction) :=
  ⟨rfl, rfl, rfl, by decide +kernel, rfl, by decide +kernel, by decide +kernel⟩
abbrev s_p_lowest : Stmt := topS 10
theorem sc_p_lowest : FnScope ["top", "bottom", "shared"] ["top", "bottom"] (defScope s_p_lowest) :=
  ⟨rfl, rfl, rfl, by decide +kernel, rfl, by decide +kernel, by decide +kernel⟩
abbrev s_p_plus : Stmt := topS 11
theorem sc_p_plus : FnScope ["one", "other"] ["one", "other"] (defScope s_p_plus) :=
  ⟨rfl, rfl, rfl, by decide +kernel, rfl, by decide +kernel, by decide +kernel⟩
abbrev s_p_minus : Stmt := topS 12
theorem sc_p_minus : FnScope ["one", "other"] ["one", "other"] (defScope s_p_minus) :=
  ⟨rfl, rfl, rfl, by decide +kernel, rfl, by decide +kernel, by decide +kernel⟩
abbrev s_p_times : Stmt := topS 13
theorem sc_p_times : FnScope ["one", "other"] ["one", "other"] (defScope s_p_times) :=
  ⟨rfl, rfl, rfl, by decide +kernel, rfl, by decide +kernel, by decide +kernel⟩
abbrev s_p_is_one_of : Stmt := topS 15
theorem sc_p_is_one_of : FnScope ["many", "thing"] ["many", "thing"] (defScope s_p_is_one_of) :=
  ⟨rfl, rfl, rfl, by decide +kernel, rfl, by decide +kernel, by decide +kernel⟩
abbrev s_p_look_at_many : Stmt := topS 20
theorem sc_p_look_at_many : FnScope ["many"] ["many"] (defScope s_p_look_at_many) :=
  ⟨rfl, rfl, rfl, by decide +kernel, rfl, by decide +kernel, by decide +kernel⟩
abbrev s_p_is_line : Stmt := topS 21
theorem sc_p_is_line : FnScope ["many", "thing", "part"] ["many", "thing"] (defScope s_p_is_line) :=
  ⟨rfl, rfl, rfl, by decide +kernel, rfl, by decide +kernel, by decide +kernel⟩
abbrev s_p_is_wish : Stmt := topS 22
theorem sc_p_is_wish : FnScope ["many", "thing", "word", "line"] ["many", "thing"] (defScope s_p_is_wish) :=
  ⟨rfl, rfl, rfl, by decide +kernel, rfl, by decide +kernel, by decide +kernel⟩
abbrev s_p_is_numbers : Stmt := topS 23
theorem sc_p_is_numbers : FnScope ["many", "thing", "part"] ["many", "thing"] (defScope s_p_is_numbers) :=
  ⟨rfl, rfl, rfl, by decide +kernel, rfl, by decide +kernel, by decide +kernel⟩
abbrev s_p_worth : Stmt := topS 24
theorem sc_p_worth : FnScope ["line", "numbers", "total", "factor", "number"] ["line", "numbers"] (defScope s_p_worth) :=
  ⟨rfl, rfl, rfl, by decide +kernel, rfl, by decide +kernel, by decide +kernel⟩
abbrev s_p_comes_to : Stmt := topS 25
theorem sc_p_comes_to : FnScope ["wishes", "many", "numbers", "word", "line", "told"] ["wishes", "many", "numbers"] (defScope s_p_comes_to) :=
  ⟨rfl, rfl, rfl, by decide +kernel, rfl, by decide +kernel, by decide +kernel⟩
abbrev s_p_grants : Stmt := topS 26
theorem sc_p_grants : FnScope ["wishes", "numbers"] ["wishes", "numbers"] (defScope s_p_grants) :=
  ⟨rfl, rfl, rfl, by decide +kernel, rfl, by decide +kernel, by decide +kernel⟩
abbrev s_p_is_letters : Stmt := topS 34
theorem sc_p_is_letters : FnScope ["thing", "most", "sign"] ["thing", "most"] (defScope s_p_is_letters) :=
  ⟨rfl, rfl, rfl, by decide +kernel, rfl, by decide +kernel, by decide +kernel⟩
abbrev s_p_is_name : Stmt := topS 35
theorem sc_p_is_name : FnScope ["thing"] ["thing"] (defScope s_p_is_name) :=
  ⟨rfl, rfl, rfl, by decide +kernel, rfl, by decide +kernel, by decide +kernel⟩
abbrev s_p_look_at_names : Stmt := topS 36
theorem sc_p_look_at_names : FnScope ["part", "thing", "most", "at", "name"] ["part", "thing", "most"] (defScope s_p_look_at_names) :=
  ⟨rfl, rfl, rfl, by decide +kernel, rfl, by decide +kernel, by decide +kernel⟩
abbrev s_p_is_wishes : Stmt := topS 37
theorem sc_p_is_wishes : FnScope ["many", "thing", "wish"] ["many", "thing"] (defScope s_p_is_wishes) :=
  ⟨rfl, rfl, rfl, by decide +kernel, rfl, by decide +kernel, by decide +kernel⟩
abbrev s_p_is_row : Stmt := topS 38
theorem sc_p_is_row : FnScope ["names", "places", "thing", "start", "to", "wishes"] ["names", "places", "thing"] (defScope s_p_is_row) :=
  ⟨rfl, rfl, rfl, by decide +kernel, rfl, by decide +kernel, by decide +kernel⟩
abbrev s_p_look_at_rows : Stmt := topS 39
theorem sc_p_look_at_rows : FnScope ["names", "places", "thing", "at", "row"] ["names", "places", "thing"] (defScope s_p_look_at_rows) :=
  ⟨rfl, rfl, rfl, by decide +kernel, rfl, by decide +kernel, by decide +kernel⟩
abbrev s_p_look_at : Stmt := topS 40
theorem sc_p_look_at : FnScope ["thing", "names", "places", "rows"] ["thing"] (defScope s_p_look_at) :=
  ⟨rfl, rfl, rfl, by decide +kernel, rfl, by decide +kernel, by decide +kernel⟩
abbrev s_p_is_closed : Stmt := topS 43
theorem sc_p_is_closed : FnScope ["program", "rows", "ways", "row", "one", "other"] ["program", "rows"] (defScope s_p_is_closed) :=
  ⟨rfl, rfl, rfl, by decide +kernel, rfl, by decide +kernel, by decide +kernel⟩
abbrev s_p_is_ring : Stmt := topS 44
theorem sc_p_is_ring : FnScope ["program", "thing", "row"] ["program", "thing"] (defScope s_p_is_ring) :=
  ⟨rfl, rfl, rfl, by decide +kernel, rfl, by decide +kernel, by decide +kernel⟩
abbrev s_p_is_lists : Stmt := topS 45
theorem sc_p_is_lists : FnScope ["many", "size", "thing", "one"] ["many", "size", "thing"] (defScope s_p_is_lists) :=
  ⟨rfl, rfl, rfl, by decide +kernel, rfl, by decide +kernel, by decide +kernel⟩
abbrev s_p_goes_round : Stmt := topS 46
theorem sc_p_goes_round : FnScope ["program", "told", "rows", "states", "drifts", "at", "row", "wishes", "first", "last"] ["program", "told"] (defScope s_p_goes_round) :=
  ⟨rfl, rfl, rfl, by decide +kernel, rfl, by decide +kernel, by decide +kernel⟩
abbrev s_p_is_round : Stmt := topS 47
theorem sc_p_is_round : FnScope ["program", "thing", "rows", "states", "drifts", "size"] ["program", "thing"] (defScope s_p_is_round) :=
  ⟨rfl, rfl, rfl, by decide +kernel, rfl, by decide +kernel, by decide +kernel⟩
abbrev s_p_lets_round : Stmt := topS 48
theorem sc_p_lets_round : FnScope ["program", "thing"] ["program", "thing"] (defScope s_p_lets_round) :=
  ⟨rfl, rfl, rfl, by decide +kernel, rfl, by decide +kernel, by decide +kernel⟩
abbrev s_L_pool : Stmt := topS 50
theorem sc_L_pool : FnScope ["_law_script", "_law_k", "_law_cell", "_law_seed"] ["_law_script", "_law_k"] (defScope s_L_pool) :=
  ⟨rfl, rfl, rfl, by decide +kernel, rfl, by decide +kernel, by decide +kernel⟩
abbrev s_L_take : Stmt := topS 51
theorem sc_L_take : FnScope ["_law_pool_here", "_law_many", "_law_digit"] ["_law_pool_here", "_law_many"] (defScope s_L_take) :=
  ⟨rfl, rfl, rfl, by decide +kernel, rfl, by decide +kernel, by decide +kernel⟩
abbrev s_L_line : Stmt := topS 52
theorem sc_L_line : FnScope ["_law_pool_here", "_law_many", "_law_far", "_law_k"] ["_law_pool_here", "_law_many", "_law_far"] (defScope s_L_line) :=
  ⟨rfl, rfl, rfl, by decide +kernel, rfl, by decide +kernel, by decide +kernel⟩
abbrev s_L_low : Stmt := topS 53
theorem sc_L_low : FnScope ["_law_top", "_law_bottom", "_law_one", "_law_two"] ["_law_top", "_law_bottom"] (defScope s_L_low) :=
  ⟨rfl, rfl, rfl, by decide +kernel, rfl, by decide +kernel, by decide +kernel⟩
abbrev s_L_sum : Stmt := topS 54
theorem sc_L_sum : FnScope ["_law_one", "_law_two"] ["_law_one", "_law_two"] (defScope s_L_sum) :=
  ⟨rfl, rfl, rfl, by decide +kernel, rfl, by decide +kernel, by decide +kernel⟩
abbrev s_L_product : Stmt := topS 55
theorem sc_L_product : FnScope ["_law_one", "_law_two"] ["_law_one", "_law_two"] (defScope s_L_product) :=
  ⟨rfl, rfl, rfl, by decide +kernel, rfl, by decide +kernel, by decide +kernel⟩
abbrev s_L_worth : Stmt := topS 56
theorem sc_L_worth : FnScope ["_law_line_here", "_law_some", "_law_found", "_law_factor", "_law_part"] ["_law_line_here", "_law_some"] (defScope s_L_worth) :=
  ⟨rfl, rfl, rfl, by decide +kernel, rfl, by decide +kernel, by decide +kernel⟩
abbrev s_L_stop : Stmt := topS 57
theorem sc_L_stop : FnScope ["_law_pool_here", "_law_size", "_law_number"] ["_law_pool_here", "_law_size"] (defScope s_L_stop) :=
  ⟨rfl, rfl, rfl, by decide +kernel, rfl, by decide +kernel, by decide +kernel⟩
abbrev s_L_all : Stmt := topS 58
theorem sc_L_all : FnScope ["_law_one", "_law_two", "_law_here", "_law_there"] ["_law_one", "_law_two"] (defScope s_L_all) :=
  ⟨rfl, rfl, rfl, by decide +kernel, rfl, by decide +kernel, by decide +kernel⟩
abbrev s_L_bare : Stmt := topS 59
theorem sc_L_bare : FnScope ["_law_line_here", "_law_some"] ["_law_line_here", "_law_some"] (defScope s_L_bare) :=
  ⟨rfl, rfl, rfl, by decide +kernel, rfl, by decide +kernel, by decide +kernel⟩
abbrev s_L_kept_wish : Stmt := topS 60
theorem sc_L_kept_wish : FnScope ["_law_pool_here", "_law_size", "_law_states", "_law_drifts", "_law_line_here", "_law_drift", "_law_word", "_law_here", "_law_number"] ["_law_pool_here", "_law_size", "_law_states", "_law_drifts"] (defScope s_L_kept_wish) :=
  ⟨rfl, rfl, rfl, by decide +kernel, rfl, by decide +kernel, by decide +kernel⟩
abbrev s_L_ringed : Stmt := topS 61
theorem sc_L_ringed : FnScope ["_law_pool_here", "_law_most", "_law_places", "_law_longest", "_law_size", "_law_many", "_law_rows", "_law_row", "_law_stops", "_law_drifts", "_law_states", "_law_some", "_law_wishes", "_law_turn", "_law_both", "_law_program"] ["_law_pool_here", "_law_most", "_law_places", "_law_longest"] (defScope s_L_ringed) :=
  ⟨rfl, rfl, rfl, by decide +kernel, rfl, by decide +kernel, by decide +kernel⟩
abbrev s_L_mixture : Stmt := topS 62
theorem sc_L_mixture : FnScope ["_law_program", "_law_lap", "_law_rows", "_law_states", "_law_drifts", "_law_size", "_law_found", "_law_row", "_law_spot", "_law_spots", "_law_ahead", "_law_behind", "_law_drift", "_law_goes"] ["_law_program", "_law_lap"] (defScope s_L_mixture) :=
  ⟨rfl, rfl, rfl, by decide +kernel, rfl, by decide +kernel, by decide +kernel⟩
abbrev s_L_is_whole : Stmt := topS 63
theorem sc_L_is_whole : FnScope ["_law_thing"] ["_law_thing"] (defScope s_L_is_whole) :=
  ⟨rfl, rfl, rfl, by decide +kernel, rfl, by decide +kernel, by decide +kernel⟩
abbrev s_L_is_ring : Stmt := topS 64
theorem sc_L_is_ring : FnScope ["_law_program", "_law_thing", "_law_row", "_law_spot", "_law_later"] ["_law_program", "_law_thing"] (defScope s_L_is_ring) :=
  ⟨rfl, rfl, rfl, by decide +kernel, rfl, by decide +kernel, by decide +kernel⟩
abbrev s_L_suits : Stmt := topS 65
theorem sc_L_suits : FnScope ["_law_wishes", "_law_many", "_law_some", "_law_word", "_law_line_here", "_law_first", "_law_here"] ["_law_wishes", "_law_many", "_law_some"] (defScope s_L_suits) :=
  ⟨rfl, rfl, rfl, by decide +kernel, rfl, by decide +kernel, by decide +kernel⟩
abbrev s_L_granted : Stmt := topS 66
theorem sc_L_granted : FnScope ["_law_wishes", "_law_some", "_law_word", "_law_line_here", "_law_here"] ["_law_wishes", "_law_some"] (defScope s_L_granted) :=
  ⟨rfl, rfl, rfl, by decide +kernel, rfl, by decide +kernel, by decide +kernel⟩
abbrev s_L_is_fraction : Stmt := topS 67
theorem sc_L_is_fraction : FnScope ["_law_thing", "_law_part"] ["_law_thing"] (defScope s_L_is_fraction) :=
  ⟨rfl, rfl, rfl, by decide +kernel, rfl, by decide +kernel, by decide +kernel⟩
abbrev s_L_are_fractions : Stmt := topS 68
theorem sc_L_are_fractions : FnScope ["_law_many", "_law_thing", "_law_part"] ["_law_many", "_law_thing"] (defScope s_L_are_fractions) :=
  ⟨rfl, rfl, rfl, by decide +kernel, rfl, by decide +kernel, by decide +kernel⟩
abbrev s_L_is_lap : Stmt := topS 69
theorem sc_L_is_lap : FnScope ["_law_program", "_law_thing", "_law_rows", "_law_states", "_law_drifts", "_law_some", "_law_spot", "_law_row", "_law_wishes", "_law_one", "_law_two"] ["_law_program", "_law_thing"] (defScope s_L_is_lap) :=
  ⟨rfl, rfl, rfl, by decide +kernel, rfl, by decide +kernel, by decide +kernel⟩
abbrev s_L_odd : Stmt := topS 70
theorem sc_L_odd : FnScope ["_law_pool_here", "_law_part", "_law_some"] ["_law_pool_here", "_law_part"] (defScope s_L_odd) :=
  ⟨rfl, rfl, rfl, by decide +kernel, rfl, by decide +kernel, by decide +kernel⟩
abbrev s_L_put : Stmt := topS 71
theorem sc_L_put : FnScope ["_law_pool_here", "_law_thing", "_law_at", "_law_way"] ["_law_pool_here", "_law_thing"] (defScope s_L_put) :=
  ⟨rfl, rfl, rfl, by decide +kernel, rfl, by decide +kernel, by decide +kernel⟩
abbrev s_L_right : Stmt := topS 72
theorem sc_L_right : FnScope ["_law_program", "_law_thing", "_law_kept", "_law_found"] ["_law_program", "_law_thing"] (defScope s_L_right) :=
  ⟨rfl, rfl, rfl, by decide +kernel, rfl, by decide +kernel, by decide +kernel⟩
abbrev s_L_twice : Stmt := topS 73
theorem sc_L_twice : FnScope ["_law_lap", "_law_rows", "_law_states", "_law_drifts", "_law_more", "_law_double", "_law_state", "_law_drift"] ["_law_lap"] (defScope s_L_twice) :=
  ⟨rfl, rfl, rfl, by decide +kernel, rfl, by decide +kernel, by decide +kernel⟩
abbrev s_L_law : Stmt := topS 74
theorem sc_L_law : FnScope ["_law_script", "_law_k", "_law_pool_here", "_law_program", "_law_lap", "_law_rows", "_law_states", "_law_drifts", "_law_some", "_law_thing", "_law_turn"] ["_law_script"] (defScope s_L_law) :=
  ⟨rfl, rfl, rfl, by decide +kernel, rfl, by decide +kernel, by decide +kernel⟩
local macro_rules | `(tactic| walk_at "lk") => `(tactic| simp only [Option.isSome_some, true_and])

def k_NOUGHT : D := .tup [.int 0, .int 1]

def k_ONE : D := .tup [.int 1, .int 1]

/-! ### what the top leaves -/
structure Tx (P : Program) (K : PySem.W.Frag) (mg : Str → Option Value) where
  n_abs : mg "abs" = none
  n_all : mg "all" = none
  n_bool : mg "bool" = none
  n_enumerate : mg "enumerate" = none
  n_int : mg "int" = none
  n_isinstance : mg "isinstance" = none
  n_len : mg "len" = none
  n_list : mg "list" = none
  n_max : mg "max" = none
  n_min : mg "min" = none
  n_range : mg "range" = none
  n_repr : mg "repr" = none
  n_str : mg "str" = none
  n_tuple : mg "tuple" = none
  n_zip : mg "zip" = none
  u_JUST : Tok
  c_JUST : mg "JUST" = some (.str "just" u_JUST)
  u_LEAST : Tok
  c_LEAST : mg "LEAST" = some (.str "least" u_LEAST)
  u_LETTERS : Tok
  c_LETTERS : mg "LETTERS" = some (.str "abcdefghijklmnopqrstuvwxyz" u_LETTERS)
  u_LONGEST_NAME : Tok
  c_LONGEST_NAME : mg "LONGEST_NAME" = some (.int (6) u_LONGEST_NAME)
  u_MOST_IN_RING : Tok
  c_MOST_IN_RING : mg "MOST_IN_RING" = some (.int (12) u_MOST_IN_RING)
  u_MOST_NAMES : Tok
  c_MOST_NAMES : mg "MOST_NAMES" = some (.int (3) u_MOST_NAMES)
  u_MOST_NUMBERS : Tok
  c_MOST_NUMBERS : mg "MOST_NUMBERS" = some (.int (8) u_MOST_NUMBERS)
  u_MOST_PLACES : Tok
  c_MOST_PLACES : mg "MOST_PLACES" = some (.int (6) u_MOST_PLACES)
  u_MOST_ROWS : Tok
  c_MOST_ROWS : mg "MOST_ROWS" = some (.int (10) u_MOST_ROWS)
  u_MOST_WISHES : Tok
  c_MOST_WISHES : mg "MOST_WISHES" = some (.int (12) u_MOST_WISHES)
  a_NOUGHT : Addr
  c_NOUGHT : mg "NOUGHT" = some (.ref a_NOUGHT)
  k_NOUGHT : ∀ F, DR K F (.ref a_NOUGHT) k_NOUGHT
  a_ONE : Addr
  c_ONE : mg "ONE" = some (.ref a_ONE)
  k_ONE : ∀ F, DR K F (.ref a_ONE) k_ONE
  f_p_is_whole : Addr
  d_p_is_whole : FuncData
  F_p_is_whole : Fun K "is_whole" "is_whole" s_p_is_whole f_p_is_whole d_p_is_whole
  g_p_is_whole : mg "is_whole" = some (.ref f_p_is_whole)
  f_p_common : Addr
  d_p_common : FuncData
  F_p_common : Fun K "common" "common" s_p_common f_p_common d_p_common
  g_p_common : mg "common" = some (.ref f_p_common)
  f_p_is_fraction : Addr
  d_p_is_fraction : FuncData
  F_p_is_fraction : Fun K "is_fraction" "is_fraction" s_p_is_fraction f_p_is_fraction d_p_is_fraction
  g_p_is_fraction : mg "is_fraction" = some (.ref f_p_is_fraction)
  f_p_lowest : Addr
  d_p_lowest : FuncData
  F_p_lowest : Fun K "lowest" "lowest" s_p_lowest f_p_lowest d_p_lowest
  g_p_lowest : mg "lowest" = some (.ref f_p_lowest)
  f_p_plus : Addr
  d_p_plus : FuncData
  F_p_plus : Fun K "plus" "plus" s_p_plus f_p_plus d_p_plus
  g_p_plus : mg "plus" = some (.ref f_p_plus)
  f_p_minus : Addr
  d_p_minus : FuncData
  F_p_minus : Fun K "minus" "minus" s_p_minus f_p_minus d_p_minus
  g_p_minus : mg "minus" = some (.ref f_p_minus)
  f_p_times : Addr
  d_p_times : FuncData
  F_p_times : Fun K "times" "times" s_p_times f_p_times d_p_times
  g_p_times : mg "times" = some (.ref f_p_times)
  f_p_is_one_of : Addr
  d_p_is_one_of : FuncData
  F_p_is_one_of : Fun K "is_one_of" "is_one_of" s_p_is_one_of f_p_is_one_of d_p_is_one_of
  g_p_is_one_of : mg "is_one_of" = some (.ref f_p_is_one_of)
  f_p_look_at_many : Addr
  d_p_look_at_many : FuncData
  F_p_look_at_many : Fun K "look_at_many" "look_at_many" s_p_look_at_many f_p_look_at_many d_p_look_at_many
  g_p_look_at_many : mg "look_at_many" = some (.ref f_p_look_at_many)
  f_p_is_line : Addr
  d_p_is_line : FuncData
  F_p_is_line : Fun K "is_line" "is_line" s_p_is_line f_p_is_line d_p_is_line
  g_p_is_line : mg "is_line" = some (.ref f_p_is_line)
  f_p_is_wish : Addr
  d_p_is_wish : FuncData
  F_p_is_wish : Fun K "is_wish" "is_wish" s_p_is_wish f_p_is_wish d_p_is_wish
  g_p_is_wish : mg "is_wish" = some (.ref f_p_is_wish)
  f_p_is_numbers : Addr
  d_p_is_numbers : FuncData
  F_p_is_numbers : Fun K "is_numbers" "is_numbers" s_p_is_numbers f_p_is_numbers d_p_is_numbers
  g_p_is_numbers : mg "is_numbers" = some (.ref f_p_is_numbers)
  f_p_worth : Addr
  d_p_worth : FuncData
  F_p_worth : Fun K "worth" "worth" s_p_worth f_p_worth d_p_worth
  g_p_worth : mg "worth" = some (.ref f_p_worth)
  f_p_comes_to : Addr
  d_p_comes_to : FuncData
  F_p_comes_to : Fun K "comes_to" "comes_to" s_p_comes_to f_p_comes_to d_p_comes_to
  g_p_comes_to : mg "comes_to" = some (.ref f_p_comes_to)
  f_p_grants : Addr
  d_p_grants : FuncData
  F_p_grants : Fun K "grants" "grants" s_p_grants f_p_grants d_p_grants
  g_p_grants : mg "grants" = some (.ref f_p_grants)
  f_p_is_letters : Addr
  d_p_is_letters : FuncData
  F_p_is_letters : Fun K "is_letters" "is_letters" s_p_is_letters f_p_is_letters d_p_is_letters
  g_p_is_letters : mg "is_letters" = some (.ref f_p_is_letters)
  f_p_is_name : Addr
  d_p_is_name : FuncData
  F_p_is_name : Fun K "is_name" "is_name" s_p_is_name f_p_is_name d_p_is_name
  g_p_is_name : mg "is_name" = some (.ref f_p_is_name)
  f_p_look_at_names : Addr
  d_p_look_at_names : FuncData
  F_p_look_at_names : Fun K "look_at_names" "look_at_names" s_p_look_at_names f_p_look_at_names d_p_look_at_names
  g_p_look_at_names : mg "look_at_names" = some (.ref f_p_look_at_names)
  f_p_is_wishes : Addr
  d_p_is_wishes : FuncData
  F_p_is_wishes : Fun K "is_wishes" "is_wishes" s_p_is_wishes f_p_is_wishes d_p_is_wishes
  g_p_is_wishes : mg "is_wishes" = some (.ref f_p_is_wishes)
  f_p_is_row : Addr
  d_p_is_row : FuncData
  F_p_is_row : Fun K "is_row" "is_row" s_p_is_row f_p_is_row d_p_is_row
  g_p_is_row : mg "is_row" = some (.ref f_p_is_row)
  f_p_look_at_rows : Addr
  d_p_look_at_rows : FuncData
  F_p_look_at_rows : Fun K "look_at_rows" "look_at_rows" s_p_look_at_rows f_p_look_at_rows d_p_look_at_rows
  g_p_look_at_rows : mg "look_at_rows" = some (.ref f_p_look_at_rows)
  f_p_look_at : Addr
  d_p_look_at : FuncData
  F_p_look_at : Fun K "look_at" "look_at" s_p_look_at f_p_look_at d_p_look_at
  g_p_look_at : mg "look_at" = some (.ref f_p_look_at)
  f_p_is_closed : Addr
  d_p_is_closed : FuncData
  F_p_is_closed : Fun K "is_closed" "is_closed" s_p_is_closed f_p_is_closed d_p_is_closed
  g_p_is_closed : mg "is_closed" = some (.ref f_p_is_closed)
  f_p_is_ring : Addr
  d_p_is_ring : FuncData
  F_p_is_ring : Fun K "is_ring" "is_ring" s_p_is_ring f_p_is_ring d_p_is_ring
  g_p_is_ring : mg "is_ring" = some (.ref f_p_is_ring)
  f_p_is_lists : Addr
  d_p_is_lists : FuncData
  F_p_is_lists : Fun K "is_lists" "is_lists" s_p_is_lists f_p_is_lists d_p_is_lists
  g_p_is_lists : mg "is_lists" = some (.ref f_p_is_lists)
  f_p_goes_round : Addr
  d_p_goes_round : FuncData
  F_p_goes_round : Fun K "goes_round" "goes_round" s_p_goes_round f_p_goes_round d_p_goes_round
  g_p_goes_round : mg "goes_round" = some (.ref f_p_goes_round)
  f_p_is_round : Addr
  d_p_is_round : FuncData
  F_p_is_round : Fun K "is_round" "is_round" s_p_is_round f_p_is_round d_p_is_round
  g_p_is_round : mg "is_round" = some (.ref f_p_is_round)
  f_p_lets_round : Addr
  d_p_lets_round : FuncData
  F_p_lets_round : Fun K "lets_round" "lets_round" s_p_lets_round f_p_lets_round d_p_lets_round
  g_p_lets_round : mg "lets_round" = some (.ref f_p_lets_round)
  f_L_pool : Addr
  d_L_pool : FuncData
  F_L_pool : Fun K "_law_pool" "_law_pool" s_L_pool f_L_pool d_L_pool
  g_L_pool : mg "_law_pool" = some (.ref f_L_pool)
  f_L_take : Addr
  d_L_take : FuncData
  F_L_take : Fun K "_law_take" "_law_take" s_L_take f_L_take d_L_take
  g_L_take : mg "_law_take" = some (.ref f_L_take)
  f_L_line : Addr
  d_L_line : FuncData
  F_L_line : Fun K "_law_line" "_law_line" s_L_line f_L_line d_L_line
  g_L_line : mg "_law_line" = some (.ref f_L_line)
  f_L_low : Addr
  d_L_low : FuncData
  F_L_low : Fun K "_law_low" "_law_low" s_L_low f_L_low d_L_low
  g_L_low : mg "_law_low" = some (.ref f_L_low)
  f_L_sum : Addr
  d_L_sum : FuncData
  F_L_sum : Fun K "_law_sum" "_law_sum" s_L_sum f_L_sum d_L_sum
  g_L_sum : mg "_law_sum" = some (.ref f_L_sum)
  f_L_product : Addr
  d_L_product : FuncData
  F_L_product : Fun K "_law_product" "_law_product" s_L_product f_L_product d_L_product
  g_L_product : mg "_law_product" = some (.ref f_L_product)
  f_L_worth : Addr
  d_L_worth : FuncData
  F_L_worth : Fun K "_law_worth" "_law_worth" s_L_worth f_L_worth d_L_worth
  g_L_worth : mg "_law_worth" = some (.ref f_L_worth)
  f_L_stop : Addr
  d_L_stop : FuncData
  F_L_stop : Fun K "_law_stop" "_law_stop" s_L_stop f_L_stop d_L_stop
  g_L_stop : mg "_law_stop" = some (.ref f_L_stop)
  f_L_all : Addr
  d_L_all : FuncData
  F_L_all : Fun K "_law_all" "_law_all" s_L_all f_L_all d_L_all
  g_L_all : mg "_law_all" = some (.ref f_L_all)
  f_L_bare : Addr
  d_L_bare : FuncData
  F_L_bare : Fun K "_law_bare" "_law_bare" s_L_bare f_L_bare d_L_bare
  g_L_bare : mg "_law_bare" = some (.ref f_L_bare)
  f_L_kept_wish : Addr
  d_L_kept_wish : FuncData
  F_L_kept_wish : Fun K "_law_kept_wish" "_law_kept_wish" s_L_kept_wish f_L_kept_wish d_L_kept_wish
  g_L_kept_wish : mg "_law_kept_wish" = some (.ref f_L_kept_wish)
  f_L_ringed : Addr
  d_L_ringed : FuncData
  F_L_ringed : Fun K "_law_ringed" "_law_ringed" s_L_ringed f_L_ringed d_L_ringed
  g_L_ringed : mg "_law_ringed" = some (.ref f_L_ringed)
  f_L_is_whole : Addr
  d_L_is_whole : FuncData
  F_L_is_whole : Fun K "_law_is_whole" "_law_is_whole" s_L_is_whole f_L_is_whole d_L_is_whole
  g_L_is_whole : mg "_law_is_whole" = some (.ref f_L_is_whole)
  f_L_is_ring : Addr
  d_L_is_ring : FuncData
  F_L_is_ring : Fun K "_law_is_ring" "_law_is_ring" s_L_is_ring f_L_is_ring d_L_is_ring
  g_L_is_ring : mg "_law_is_ring" = some (.ref f_L_is_ring)
  f_L_suits : Addr
  d_L_suits : FuncData
  F_L_suits : Fun K "_law_suits" "_law_suits" s_L_suits f_L_suits d_L_suits
  g_L_suits : mg "_law_suits" = some (.ref f_L_suits)
  f_L_granted : Addr
  d_L_granted : FuncData
  F_L_granted : Fun K "_law_granted" "_law_granted" s_L_granted f_L_granted d_L_granted
  g_L_granted : mg "_law_granted" = some (.ref f_L_granted)
  f_L_is_fraction : Addr
  d_L_is_fraction : FuncData
  F_L_is_fraction : Fun K "_law_is_fraction" "_law_is_fraction" s_L_is_fraction f_L_is_fraction d_L_is_fraction
  g_L_is_fraction : mg "_law_is_fraction" = some (.ref f_L_is_fraction)
  f_L_are_fractions : Addr
  d_L_are_fractions : FuncData
  F_L_are_fractions : Fun K "_law_are_fractions" "_law_are_fractions" s_L_are_fractions f_L_are_fractions d_L_are_fractions
  g_L_are_fractions : mg "_law_are_fractions" = some (.ref f_L_are_fractions)
  f_L_is_lap : Addr
  d_L_is_lap : FuncData
  F_L_is_lap : Fun K "_law_is_lap" "_law_is_lap" s_L_is_lap f_L_is_lap d_L_is_lap
  g_L_is_lap : mg "_law_is_lap" = some (.ref f_L_is_lap)
  f_L_odd : Addr
  d_L_odd : FuncData
  F_L_odd : Fun K "_law_odd" "_law_odd" s_L_odd f_L_odd d_L_odd
  g_L_odd : mg "_law_odd" = some (.ref f_L_odd)
  f_L_put : Addr
  d_L_put : FuncData
  F_L_put : Fun K "_law_put" "_law_put" s_L_put f_L_put d_L_put
  g_L_put : mg "_law_put" = some (.ref f_L_put)
  f_L_right : Addr
  d_L_right : FuncData
  F_L_right : Fun K "_law_right" "_law_right" s_L_right f_L_right d_L_right
  g_L_right : mg "_law_right" = some (.ref f_L_right)
  f_L_twice : Addr
  d_L_twice : FuncData
  F_L_twice : Fun K "_law_twice" "_law_twice" s_L_twice f_L_twice d_L_twice
  g_L_twice : mg "_law_twice" = some (.ref f_L_twice)
  f_L_law : Addr
  d_L_law : FuncData
  F_L_law : Fun K "law" "law" s_L_law f_L_law d_L_law
  g_L_law : mg "law" = some (.ref f_L_law)
  b_L_all_2 : Bnd K d_L_all ["_law_one", "_law_two"] 2 [] [0, 1]
  b_L_are_fractions_2 : Bnd K d_L_are_fractions ["_law_many", "_law_thing"] 2 [] [0, 1]
  b_L_bare_2 : Bnd K d_L_bare ["_law_line_here", "_law_some"] 2 [] [0, 1]
  b_L_granted_2 : Bnd K d_L_granted ["_law_wishes", "_law_some"] 2 [] [0, 1]
  b_L_is_fraction_1 : Bnd K d_L_is_fraction ["_law_thing"] 1 [] [0]
  b_L_is_lap_2 : Bnd K d_L_is_lap ["_law_program", "_law_thing"] 2 [] [0, 1]
  b_L_is_ring_2 : Bnd K d_L_is_ring ["_law_program", "_law_thing"] 2 [] [0, 1]
  b_L_is_whole_1 : Bnd K d_L_is_whole ["_law_thing"] 1 [] [0]
  b_L_kept_wish_4 : Bnd K d_L_kept_wish ["_law_pool_here", "_law_size", "_law_states", "_law_drifts"] 4 [] [0, 1, 2, 3]
  b_L_line_3 : Bnd K d_L_line ["_law_pool_here", "_law_many", "_law_far"] 3 [] [0, 1, 2]
  b_L_low_2 : Bnd K d_L_low ["_law_top", "_law_bottom"] 2 [] [0, 1]
  b_L_odd_2 : Bnd K d_L_odd ["_law_pool_here", "_law_part"] 2 [] [0, 1]
  b_L_pool_2 : Bnd K d_L_pool ["_law_script", "_law_k"] 2 [] [0, 1]
  b_L_product_2 : Bnd K d_L_product ["_law_one", "_law_two"] 2 [] [0, 1]
  b_L_put_2 : Bnd K d_L_put ["_law_pool_here", "_law_thing"] 2 [] [0, 1]
  b_L_right_2 : Bnd K d_L_right ["_law_program", "_law_thing"] 2 [] [0, 1]
  b_L_ringed_4 : Bnd K d_L_ringed ["_law_pool_here", "_law_most", "_law_places", "_law_longest"] 4 [] [0, 1, 2, 3]
  b_L_stop_2 : Bnd K d_L_stop ["_law_pool_here", "_law_size"] 2 [] [0, 1]
  b_L_suits_3 : Bnd K d_L_suits ["_law_wishes", "_law_many", "_law_some"] 3 [] [0, 1, 2]
  b_L_sum_2 : Bnd K d_L_sum ["_law_one", "_law_two"] 2 [] [0, 1]
  b_L_take_2 : Bnd K d_L_take ["_law_pool_here", "_law_many"] 2 [] [0, 1]
  b_L_twice_1 : Bnd K d_L_twice ["_law_lap"] 1 [] [0]
  b_L_worth_2 : Bnd K d_L_worth ["_law_line_here", "_law_some"] 2 [] [0, 1]
  b_p_comes_to_3 : Bnd K d_p_comes_to ["wishes", "many", "numbers"] 3 [] [0, 1, 2]
  b_p_common_2 : Bnd K d_p_common ["one", "other"] 2 [] [0, 1]
  b_p_goes_round_2 : Bnd K d_p_goes_round ["program", "told"] 2 [] [0, 1]
  b_p_grants_2 : Bnd K d_p_grants ["wishes", "numbers"] 2 [] [0, 1]
  b_p_is_closed_2 : Bnd K d_p_is_closed ["program", "rows"] 2 [] [0, 1]
  b_p_is_fraction_1 : Bnd K d_p_is_fraction ["thing"] 1 [] [0]
  b_p_is_letters_2 : Bnd K d_p_is_letters ["thing", "most"] 2 [] [0, 1]
  b_p_is_line_2 : Bnd K d_p_is_line ["many", "thing"] 2 [] [0, 1]
  b_p_is_lists_3 : Bnd K d_p_is_lists ["many", "size", "thing"] 3 [] [0, 1, 2]
  b_p_is_name_1 : Bnd K d_p_is_name ["thing"] 1 [] [0]
  b_p_is_numbers_2 : Bnd K d_p_is_numbers ["many", "thing"] 2 [] [0, 1]
  b_p_is_one_of_2 : Bnd K d_p_is_one_of ["many", "thing"] 2 [] [0, 1]
  b_p_is_ring_2 : Bnd K d_p_is_ring ["program", "thing"] 2 [] [0, 1]
  b_p_is_round_2 : Bnd K d_p_is_round ["program", "thing"] 2 [] [0, 1]
  b_p_is_row_3 : Bnd K d_p_is_row ["names", "places", "thing"] 3 [] [0, 1, 2]
  b_p_is_whole_1 : Bnd K d_p_is_whole ["thing"] 1 [] [0]
  b_p_is_wish_2 : Bnd K d_p_is_wish ["many", "thing"] 2 [] [0, 1]
  b_p_is_wishes_2 : Bnd K d_p_is_wishes ["many", "thing"] 2 [] [0, 1]
  b_p_lets_round_2 : Bnd K d_p_lets_round ["program", "thing"] 2 [] [0, 1]
  b_p_look_at_1 : Bnd K d_p_look_at ["thing"] 1 [] [0]
  b_p_look_at_many_1 : Bnd K d_p_look_at_many ["many"] 1 [] [0]
  b_p_look_at_names_3 : Bnd K d_p_look_at_names ["part", "thing", "most"] 3 [] [0, 1, 2]
  b_p_look_at_rows_3 : Bnd K d_p_look_at_rows ["names", "places", "thing"] 3 [] [0, 1, 2]
  b_p_lowest_2 : Bnd K d_p_lowest ["top", "bottom"] 2 [] [0, 1]
  b_p_minus_2 : Bnd K d_p_minus ["one", "other"] 2 [] [0, 1]
  b_p_plus_2 : Bnd K d_p_plus ["one", "other"] 2 [] [0, 1]
  b_p_times_2 : Bnd K d_p_times ["one", "other"] 2 [] [0, 1]
  b_p_worth_2 : Bnd K d_p_worth ["line", "numbers"] 2 [] [0, 1]
section
variable {P : Program} {w : World} {K : PySem.W.Frag} {mg : Str → Option Value} {base : Heap}
/-! p_is_whole -/
def isW (d : D) : Bool := match d with
  | .int _ => true
  | _ => false
def sp_p_is_whole : FS := fun ds ms P => match ds with
  | [d] => (∃ a, tyD d = some a) ∧ P (.bl (isW d)) ms
  | _ => False
theorem len_p_is_whole : ∀ ds ms Q, sp_p_is_whole ds ms Q → ds.length = 1 := fun ds ms Q h => by
  unfold sp_p_is_whole at h
  split at h <;> first | rfl | exact h.elim
def t_p_is_whole : DTS := dRet (dAndV (dIsi .int (dVar 0)) (dNotV (dIsi .bool (dVar 0))))
theorem whole_sem {d : D} {ms : MS} {Q : D → MS → Prop} (h : (∃ a, tyD d = some a) ∧ Q (.bl (isW d)) ms) : dAndV (dIsi .int (dVar 0)) (dNotV (dIsi .bool (dVar 0))) [some d] ms Q := by
  obtain ⟨⟨a, e⟩, h⟩ := h
  walk_at "dl"
  rw [e]
  cases d <;> cases e <;> exact h
theorem sem_p_is_whole : ∀ ds ms Q, sp_p_is_whole ds ms Q → t_p_is_whole { nx := fun _ m => Q .non m, rt := Q } (startD 1 ds) ms := by
  intro ds ms Q h
  unfold sp_p_is_whole at h
  split at h
  · unfold t_p_is_whole
    exact whole_sem h
  · exact h.elim
theorem ok_p_is_whole (T : Tx P K mg) : FnG P w K mg base 1 T.f_p_is_whole T.d_p_is_whole ["thing"] (spD K sp_p_is_whole) := by
  exact fnG_of (k := 0) (t := t_p_is_whole) T.F_p_is_whole sc_p_is_whole len_p_is_whole
    (fun cdv A outer s H hr => pds_one (pds_ret (pd_and (pd_isi .int (by decide) rfl T.n_isinstance rfl T.n_int (by decide +kernel) (by decide) (by decide) (pd_var 0)) (pd_one (pd_not (pd_isi .bool (by decide) rfl T.n_isinstance rfl T.n_bool (by decide +kernel) (by decide) (by decide) (pd_var 0)))))))
    sem_p_is_whole
/-! p_common -/
def sp_p_common : FS := fun ds ms P => match ds with
  | [.int a, .int b] => P (.int (Int.gcd a b)) ms
  | _ => False
theorem len_p_common : ∀ ds ms Q, sp_p_common ds ms Q → ds.length = 2 := fun ds ms Q h => by
  unfold sp_p_common at h
  split at h <;> first | rfl | exact h.elim
def t_p_common : DTS := dSeq (dWhile (dTest (dOp fNe (dVar 1) (dC (.int 0)))) (dPar 0 1 (aCons (dVar 1) (aCons (dOp fMod (dVar 0) (dVar 1)) (aNil))))) (dRet (dCB cAbs (aCons (dVar 0) (aNil))))
theorem loop_common {E : EN} {ms : MS} : ∀ (n : Nat) (a b : Int), b.natAbs < n → (∀ g : Int, g.natAbs = Int.gcd a b → E.nx [some (.int g), some (.int 0)] ms) →
    whileD (dTest (dOp fNe (dVar 1) (dC (.int 0)))) (dPar 0 1 (aCons (dVar 1) (aCons (dOp fMod (dVar 0) (dVar 1)) aNil))) E n [some (.int a), some (.int b)] ms := by
  intro n
  induction n with
  | zero => intro a b h; omega
  | succ n ih =>
    intro a b h q
    unfold whileD
    walk_at "dl"
    by_cases hb : b = 0
    · subst hb
      rw [if_neg (by decide)]
      exact q a (by simp)
    · have e : (!(b == 0)) = true := by simp [hb]
      rw [if_pos e]
      refine ⟨hb, ih b (a.fmod b) ?_ fun g hg => q g (hg.trans (gcd_fmod a b))⟩
      have := fmod_less (a := a) hb
      omega
theorem sem_p_common : ∀ ds ms Q, sp_p_common ds ms Q → t_p_common { nx := fun _ m => Q .non m, rt := Q } (startD 2 ds) ms := by
  intro ds ms Q h
  unfold sp_p_common at h
  split at h
  · rename_i a b
    unfold t_p_common
    walk_at "dl"
    refine ⟨b.natAbs + 1, loop_common _ a b (by omega) fun g hg => ?_⟩
    walk_at "dl"
    have e : (if g < 0 then -g else g) = (Int.gcd a b : Int) := by split <;> omega
    rw [e]
    exact h
  · exact h.elim
theorem ok_p_common (T : Tx P K mg) : FnG P w K mg base 1 T.f_p_common T.d_p_common ["one", "other"] (spD K sp_p_common) := by
  exact fnG_of (k := 0) (t := t_p_common) T.F_p_common sc_p_common len_p_common
    (fun cdv A outer s H hr => pds_cons (pds_while (pdt_cmp (op_neF hr.r.units) opd_ne (pd_var 1) (pd_int)) (pds_one (pds_par (i := 0) (j := 1) rfl sc_p_common.nd rfl rfl (by decide) rfl rfl (pda_cons (pd_var 1) (pda_cons (pd_op op_modN opd_mod (pd_var 0) (pd_var 1)) (pda_nil))) (by rfl)))) (pds_one (pds_ret (pd_callB call_abs cal_abs rfl T.n_abs (by decide +kernel) (pda_cons (pd_var 0) (pda_nil))))))
    sem_p_common
/-! p_is_fraction -/
def isF (d : D) : Bool := match d with
  | .tup [.int a, .int b] => decide (1 ≤ b) && decide (Int.gcd a b = 1)
  | _ => false
def Tys (d : D) : Prop := ∃ a, tyD d = some a
structure OkF (d : D) : Prop where
  ty : Tys d
  two : ∀ x y, d = .tup [x, y] → Tys x ∧ Tys y
  bd : ∀ a b, d = .tup [.int a, .int b] → Bd 4000 b
theorem isF_n {x y : D} (h : isW x = false ∨ isW y = false) : isF (.tup [x, y]) = false := by
  cases x <;> cases y <;> simp_all [isW, isF]
def sp_p_is_fraction : FS := fun ds ms P => match ds with
  | [d] => OkF d ∧ P (.bl (isF d)) ms
  | _ => False
theorem len_p_is_fraction : ∀ ds ms Q, sp_p_is_fraction ds ms Q → ds.length = 1 := fun ds ms Q h => by
  unfold sp_p_is_fraction at h
  split at h <;> first | rfl | exact h.elim
def t_p_is_fraction : DTS := dSeq (dIfS (dOr (dNot (dTest (dIsi .tuple (dVar 0)))) (dTest (dOp fNe (dCB cLen (aCons (dVar 0) (aNil))) (dC (.int 2))))) (dRet (dC (.bl false))) (dNext)) (dSeq (dAsg (dVar 0) (sTup 2 (sCons (sName 1) (sCons (sName 2) (sNil))))) (dSeq (dIfS (dOr (dNot (dTest (dCall 1 0 [0] sp_p_is_whole (aCons (dVar 1) (aNil)) (aNil)))) (dOr (dNot (dTest (dCall 1 0 [0] sp_p_is_whole (aCons (dVar 2) (aNil)) (aNil)))) (dTest (dOp fLt (dVar 2) (dC (.int 1)))))) (dRet (dC (.bl false))) (dNext)) (dRet (dOp fEq (dCall 2 0 [0, 1] sp_p_common (aCons (dVar 1) (aCons (dVar 2) (aNil))) (aNil)) (dC (.int 1))))))
theorem isi_of {d : D} {a : Ty} (h : tyD d = some a) (t : Ty) {ms : MS} {P : D → MS → Prop} {ds : DS} {i : Nat} (hi : slot ds i = some d) (q : P (.bl (subT a t)) ms) : dIsi t (dVar i) ds ms P := by
  unfold dIsi dVar
  rw [hi]
  simp only [h]
  exact q
theorem sem_p_is_fraction : ∀ ds ms Q, sp_p_is_fraction ds ms Q → t_p_is_fraction { nx := fun _ m => Q .non m, rt := Q } (startD 3 ds) ms := by
  intro ds ms Q h
  unfold sp_p_is_fraction at h
  split at h
  · rename_i d
    obtain ⟨ok, h⟩ := h
    unfold t_p_is_fraction
    walk_at "dl"
    obtain ⟨a, e⟩ := ok.ty
    rw [e]
    cases d with
    | tup ys =>
      cases e
      simp only [show subT .tuple .tuple = true from rfl, Bool.not_true, Bool.false_eq_true, if_false]
      match ys, ok, h with
      | [], ok, h => exact h
      | [x], ok, h =>
        have hf : isF (.tup [x]) = false := by cases x <;> rfl
        rw [if_pos (by simp only [List.length_cons, List.length_nil]; decide)]
        rw [hf] at h
        exact h
      | x :: y :: z :: r, ok, h =>
        have hf : isF (.tup (x :: y :: z :: r)) = false := by cases x <;> cases y <;> rfl
        rw [if_pos (by simp only [List.length_cons]; rw [Bool.not_eq_true', beq_eq_false_iff_ne]; omega)]
        rw [hf] at h
        exact h
      | [x, y], ok, h =>
        rw [if_neg (by simp only [List.length_cons, List.length_nil]; decide)]
        obtain ⟨tx, ty⟩ := ok.two x y rfl
        refine ⟨rfl, tx, ?_⟩
        cases hx : isW x with
        | false => rw [isF_n (.inl hx)] at h; exact h
        | true =>
          refine ⟨ty, ?_⟩
          cases hy : isW y with
          | false => rw [isF_n (.inr hy)] at h; exact h
          | true =>
            cases x <;> cases hx
            cases y <;> cases hy
            rename_i a b
            simp only [Bool.not_true, Bool.false_eq_true, if_false]
            have e : isF (.tup [.int a, .int b]) = (decide (1 ≤ b) && decide (Int.gcd a b = 1)) := rfl
            rw [e] at h
            by_cases hb : b < 1
            · rw [if_pos hb]
              rw [decide_eq_false (by omega), Bool.false_and] at h
              exact h
            · rw [if_neg hb]
              rw [decide_eq_true (by omega), Bool.true_and] at h
              show Q (.bl (((Int.gcd a b : Nat) : Int) == 1)) ms
              have e2 : (((Int.gcd a b : Nat) : Int) == 1) = decide (Int.gcd a b = 1) := by
                rw [Bool.eq_iff_iff, beq_iff_eq, decide_eq_true_iff]
                omega
              rw [e2]
              exact h
    | _ => cases e <;> exact h
  · exact h.elim
theorem ok_p_is_fraction (T : Tx P K mg) : FnG P w K mg base 2 T.f_p_is_fraction T.d_p_is_fraction ["thing"] (spD K sp_p_is_fraction) := by
  have G_p_common := ok_p_common (P := P) (w := w) (base := base) T
  have G_p_is_whole := ok_p_is_whole (P := P) (w := w) (base := base) T
  exact fnG_of (k := 1) (t := t_p_is_fraction) T.F_p_is_fraction sc_p_is_fraction len_p_is_fraction
    (fun cdv A outer s H hr => pds_cons (pds_if (pdt_w (pdw_or (pdt_not (pdt_val (pd_isi .tuple (by decide) rfl T.n_isinstance rfl T.n_tuple (by decide +kernel) (by decide) (by decide) (pd_var 0)))) (pdw_or1 (pdt_cmp (op_neF hr.r.units) opd_ne (pd_callB call_len cal_len rfl T.n_len (by decide +kernel) (pda_cons (pd_var 0) (pda_nil))) (pd_int))))) (pds_one (pds_ret (pd_bl))) (pds_nil)) (pds_cons (pds_asg (vs := [1, 2]) (pd_var 0) (pg_tup rfl (pgs_cons (pg_name (i := 1) sc_p_is_fraction.nd rfl (.inl rfl)) (pgs_cons (pg_name (i := 2) sc_p_is_fraction.nd rfl (.inl rfl)) (pgs_nil)))) (tg_tup (tgs_cons (tg_name (i := 1) (by decide)) (tgs_cons (tg_name (i := 2) (by decide)) (tgs_nil) (mon_name (i := 2))) (mon_name (i := 1))))) (pds_cons (pds_if (pdt_w (pdw_or (pdt_not (pdt_val (pd_call G_p_is_whole (hr.mono (by decide)) rfl T.g_p_is_whole T.F_p_is_whole.kp T.b_p_is_whole_1 (pda_cons (pd_var 1) (pda_nil))))) (pdw_or (pdt_not (pdt_val (pd_call G_p_is_whole (hr.mono (by decide)) rfl T.g_p_is_whole T.F_p_is_whole.kp T.b_p_is_whole_1 (pda_cons (pd_var 2) (pda_nil))))) (pdw_or1 (pdt_cmp op_lt opd_lt (pd_var 2) (pd_int)))))) (pds_one (pds_ret (pd_bl))) (pds_nil)) (pds_one (pds_ret (pd_cmp (op_eqF hr.r.units) opd_eq (pd_call G_p_common (hr.mono (by decide)) rfl T.g_p_common T.F_p_common.kp T.b_p_common_2 (pda_cons (pd_var 1) (pda_cons (pd_var 2) (pda_nil)))) (pd_int)))))))
    sem_p_is_fraction
/-! p_lowest -/
def sp_p_lowest : FS := fun ds ms P => match ds with
  | [.int a, .int b] => b ≠ 0 ∧ Bd 8000 b ∧ P (fr (lowT a b)) ms
  | _ => False
theorem len_p_lowest : ∀ ds ms Q, sp_p_lowest ds ms Q → ds.length = 2 := fun ds ms Q h => by
  unfold sp_p_lowest at h
  split at h <;> first | rfl | exact h.elim
def t_p_lowest : DTS := dSeq (dAsg (dCall 2 0 [0, 1] sp_p_common (aCons (dVar 0) (aCons (dVar 1) (aNil))) (aNil)) (sName 2)) (dSeq (dIfS (dTest (dOp fLt (dVar 1) (dC (.int 0)))) (dAsg (dNeg (dVar 2)) (sName 2)) (dNext)) (dRet (dTup (aCons (dOp fDiv (dVar 0) (dVar 2)) (aCons (dOp fDiv (dVar 1) (dVar 2)) (aNil))))))
theorem sem_p_lowest : ∀ ds ms Q, sp_p_lowest ds ms Q → t_p_lowest { nx := fun _ m => Q .non m, rt := Q } (startD 3 ds) ms := by
  intro ds ms Q h
  unfold sp_p_lowest at h
  split at h
  · rename_i a b
    obtain ⟨h0, hb, h⟩ := h
    unfold t_p_lowest
    walk_at "dl"
    unfold sp_p_common
    have hd := fun x => sgcd_ok (a := a) h0 hb (by decide) (by decide) x
    have e : fr (lowT a b) = .tup [.int (a.fdiv (sgcd a b)), .int (b.fdiv (sgcd a b))] := rfl
    rw [e] at h
    unfold sgcd at hd h
    by_cases hn : b < 0
    · rw [if_pos hn] at hd h
      simp only [hn, if_true]
      exact ⟨hd a, hd b, by decide, h⟩
    · rw [if_neg hn] at hd h
      simp only [hn, if_false]
      exact ⟨hd a, hd b, by decide, h⟩
  · exact h.elim
theorem ok_p_lowest (T : Tx P K mg) : FnG P w K mg base 2 T.f_p_lowest T.d_p_lowest ["top", "bottom"] (spD K sp_p_lowest) := by
  have G_p_common := ok_p_common (P := P) (w := w) (base := base) T
  exact fnG_of (k := 1) (t := t_p_lowest) T.F_p_lowest sc_p_lowest len_p_lowest
    (fun cdv A outer s H hr => pds_cons (pds_set (i := 2) sc_p_lowest.nd rfl (.inl rfl) (pd_call G_p_common (hr.mono (by decide)) rfl T.g_p_common T.F_p_common.kp T.b_p_common_2 (pda_cons (pd_var 0) (pda_cons (pd_var 1) (pda_nil))))) (pds_cons (pds_if (pdt_cmp op_lt opd_lt (pd_var 1) (pd_int)) (pds_one (pds_set (i := 2) sc_p_lowest.nd rfl (.inl rfl) (pd_neg (pd_var 2)))) (pds_nil)) (pds_one (pds_ret (pd_tup (pda_cons (pd_op op_fdivA opd_div (pd_var 0) (pd_var 2)) (pda_cons (pd_op op_fdivA opd_div (pd_var 1) (pd_var 2)) (pda_nil))))))))
    sem_p_lowest
/-! p_plus -/
def sp_p_plus : FS := fun ds ms P => match ds with
  | [.tup [.int a, .int b], .tup [.int c, .int d]] => (b ≠ 0 ∧ d ≠ 0 ∧ Bd 4000 a ∧ Bd 4000 b ∧ Bd 4000 c ∧ Bd 4000 d) ∧ P (fr (addT (a, b) (c, d))) ms
  | _ => False
theorem len_p_plus : ∀ ds ms Q, sp_p_plus ds ms Q → ds.length = 2 := fun ds ms Q h => by
  unfold sp_p_plus at h
  split at h <;> first | rfl | exact h.elim
def t_p_plus : DTS := dRet (dCall 2 0 [0, 1] sp_p_lowest (aCons (dOp fAdd (dOp fMul (dOp fIx (dVar 0) (dC (.int 0))) (dOp fIx (dVar 1) (dC (.int 1)))) (dOp fMul (dOp fIx (dVar 1) (dC (.int 0))) (dOp fIx (dVar 0) (dC (.int 1))))) (aCons (dOp fMul (dOp fIx (dVar 0) (dC (.int 1))) (dOp fIx (dVar 1) (dC (.int 1)))) (aNil))) (aNil))
theorem sem_p_plus : ∀ ds ms Q, sp_p_plus ds ms Q → t_p_plus { nx := fun _ m => Q .non m, rt := Q } (startD 2 ds) ms := by
  intro ds ms Q h
  unfold sp_p_plus at h
  split at h
  · rename_i a b c d
    obtain ⟨⟨h1, h2, ha, hb, hc, hd⟩, h⟩ := h
    unfold t_p_plus
    walk_at "dl"
    simp only [fIx, atI_0, atI_1]
    unfold sp_p_lowest
    exact ⟨ha.mulOk hd (by decide) (by decide) (by decide), hc.mulOk hb (by decide) (by decide) (by decide), hb.mulOk hd (by decide) (by decide) (by decide), Int.mul_ne_zero h1 h2, hb.mul hd, h⟩
  · exact h.elim
theorem ok_p_plus (T : Tx P K mg) : FnG P w K mg base 3 T.f_p_plus T.d_p_plus ["one", "other"] (spD K sp_p_plus) := by
  have G_p_lowest := ok_p_lowest (P := P) (w := w) (base := base) T
  exact fnG_of (k := 2) (t := t_p_plus) T.F_p_plus sc_p_plus len_p_plus
    (fun cdv A outer s H hr => pds_one (pds_ret (pd_call G_p_lowest (hr.mono (by decide)) rfl T.g_p_lowest T.F_p_lowest.kp T.b_p_lowest_2 (pda_cons (pd_op op_addD opd_add (pd_op op_mulA opd_mul (pd_ix ix_seq opd_ix (pd_var 0) (pd_int)) (pd_ix ix_seq opd_ix (pd_var 1) (pd_int))) (pd_op op_mulA opd_mul (pd_ix ix_seq opd_ix (pd_var 1) (pd_int)) (pd_ix ix_seq opd_ix (pd_var 0) (pd_int)))) (pda_cons (pd_op op_mulA opd_mul (pd_ix ix_seq opd_ix (pd_var 0) (pd_int)) (pd_ix ix_seq opd_ix (pd_var 1) (pd_int))) (pda_nil))))))
    sem_p_plus
/-! p_minus -/
def subF (p q : Int × Int) : Int × Int := lowT (p.1 * q.2 - q.1 * p.2) (p.2 * q.2)
theorem sub_is (p q : Int × Int) : addT p (0 - q.1, q.2) = subF p q := by
  unfold addT subF
  have e : p.1 * q.2 + (0 - q.1) * p.2 = p.1 * q.2 - q.1 * p.2 := by rw [Int.zero_sub, Int.neg_mul]; omega
  show lowT (p.1 * q.2 + (0 - q.1) * p.2) (p.2 * q.2) = _
  rw [e]
def sp_p_minus : FS := fun ds ms P => match ds with
  | [.tup [.int a, .int b], .tup [.int c, .int d]] => (b ≠ 0 ∧ d ≠ 0 ∧ Bd 4000 a ∧ Bd 4000 b ∧ Bd 4000 c ∧ Bd 4000 d) ∧ P (fr (subF (a, b) (c, d))) ms
  | _ => False
theorem len_p_minus : ∀ ds ms Q, sp_p_minus ds ms Q → ds.length = 2 := fun ds ms Q h => by
  unfold sp_p_minus at h
  split at h <;> first | rfl | exact h.elim
def t_p_minus : DTS := dRet (dCall 2 0 [0, 1] sp_p_lowest (aCons (dOp fSub (dOp fMul (dOp fIx (dVar 0) (dC (.int 0))) (dOp fIx (dVar 1) (dC (.int 1)))) (dOp fMul (dOp fIx (dVar 1) (dC (.int 0))) (dOp fIx (dVar 0) (dC (.int 1))))) (aCons (dOp fMul (dOp fIx (dVar 0) (dC (.int 1))) (dOp fIx (dVar 1) (dC (.int 1)))) (aNil))) (aNil))
theorem sem_p_minus : ∀ ds ms Q, sp_p_minus ds ms Q → t_p_minus { nx := fun _ m => Q .non m, rt := Q } (startD 2 ds) ms := by
  intro ds ms Q h
  unfold sp_p_minus at h
  split at h
  · rename_i a b c d
    obtain ⟨⟨h1, h2, ha, hb, hc, hd⟩, h⟩ := h
    unfold t_p_minus
    walk_at "dl"
    simp only [fIx, atI_0, atI_1]
    unfold sp_p_lowest
    exact ⟨ha.mulOk hd (by decide) (by decide) (by decide), hc.mulOk hb (by decide) (by decide) (by decide), hb.mulOk hd (by decide) (by decide) (by decide), Int.mul_ne_zero h1 h2, hb.mul hd, h⟩
  · exact h.elim
theorem ok_p_minus (T : Tx P K mg) : FnG P w K mg base 3 T.f_p_minus T.d_p_minus ["one", "other"] (spD K sp_p_minus) := by
  have G_p_lowest := ok_p_lowest (P := P) (w := w) (base := base) T
  exact fnG_of (k := 2) (t := t_p_minus) T.F_p_minus sc_p_minus len_p_minus
    (fun cdv A outer s H hr => pds_one (pds_ret (pd_call G_p_lowest (hr.mono (by decide)) rfl T.g_p_lowest T.F_p_lowest.kp T.b_p_lowest_2 (pda_cons (pd_op op_sub opd_sub (pd_op op_mulA opd_mul (pd_ix ix_seq opd_ix (pd_var 0) (pd_int)) (pd_ix ix_seq opd_ix (pd_var 1) (pd_int))) (pd_op op_mulA opd_mul (pd_ix ix_seq opd_ix (pd_var 1) (pd_int)) (pd_ix ix_seq opd_ix (pd_var 0) (pd_int)))) (pda_cons (pd_op op_mulA opd_mul (pd_ix ix_seq opd_ix (pd_var 0) (pd_int)) (pd_ix ix_seq opd_ix (pd_var 1) (pd_int))) (pda_nil))))))
    sem_p_minus
/-! p_times -/
def sp_p_times : FS := fun ds ms P => match ds with
  | [.tup [.int a, .int b], .tup [.int c, .int d]] => (b ≠ 0 ∧ d ≠ 0 ∧ Bd 4000 a ∧ Bd 4000 b ∧ Bd 4000 c ∧ Bd 4000 d) ∧ P (fr (mulT (a, b) (c, d))) ms
  | _ => False
theorem len_p_times : ∀ ds ms Q, sp_p_times ds ms Q → ds.length = 2 := fun ds ms Q h => by
  unfold sp_p_times at h
  split at h <;> first | rfl | exact h.elim
def t_p_times : DTS := dRet (dCall 2 0 [0, 1] sp_p_lowest (aCons (dOp fMul (dOp fIx (dVar 0) (dC (.int 0))) (dOp fIx (dVar 1) (dC (.int 0)))) (aCons (dOp fMul (dOp fIx (dVar 0) (dC (.int 1))) (dOp fIx (dVar 1) (dC (.int 1)))) (aNil))) (aNil))
theorem sem_p_times : ∀ ds ms Q, sp_p_times ds ms Q → t_p_times { nx := fun _ m => Q .non m, rt := Q } (startD 2 ds) ms := by
  intro ds ms Q h
  unfold sp_p_times at h
  split at h
  · rename_i a b c d
    obtain ⟨⟨h1, h2, ha, hb, hc, hd⟩, h⟩ := h
    unfold t_p_times
    walk_at "dl"
    simp only [fIx, atI_0, atI_1]
    unfold sp_p_lowest
    exact ⟨ha.mulOk hc (by decide) (by decide) (by decide), hb.mulOk hd (by decide) (by decide) (by decide), Int.mul_ne_zero h1 h2, hb.mul hd, h⟩
  · exact h.elim
theorem ok_p_times (T : Tx P K mg) : FnG P w K mg base 3 T.f_p_times T.d_p_times ["one", "other"] (spD K sp_p_times) := by
  have G_p_lowest := ok_p_lowest (P := P) (w := w) (base := base) T
  exact fnG_of (k := 2) (t := t_p_times) T.F_p_times sc_p_times len_p_times
    (fun cdv A outer s H hr => pds_one (pds_ret (pd_call G_p_lowest (hr.mono (by decide)) rfl T.g_p_lowest T.F_p_lowest.kp T.b_p_lowest_2 (pda_cons (pd_op op_mulA opd_mul (pd_ix ix_seq opd_ix (pd_var 0) (pd_int)) (pd_ix ix_seq opd_ix (pd_var 1) (pd_int))) (pda_cons (pd_op op_mulA opd_mul (pd_ix ix_seq opd_ix (pd_var 0) (pd_int)) (pd_ix ix_seq opd_ix (pd_var 1) (pd_int))) (pda_nil))))))
    sem_p_times
/-! p_is_one_of -/
theorem AnyX.okF {n : Nat} {d : D} (h : AnyX n d) (hn : n ≤ 4000) : OkF d := by
  refine ⟨h.ty, fun x y e => ?_, fun a b e => ?_⟩
  · subst e
    exact ⟨(h.tup.2 x (by simp)).ty, (h.tup.2 y (by simp)).ty⟩
  · subst e
    exact (h.tup.2 (.int b) (by simp)).int.mono hn
theorem isF_iff {d : D} : isF d = true ↔ ∃ t : Int × Int, d = fr t ∧ Low t := by
  refine ⟨fun h => ?_, fun ⟨t, e, l⟩ => ?_⟩
  · unfold isF at h
    split at h
    · rename_i a b
      obtain ⟨h1, h2⟩ := Bool.and_eq_true_iff.mp h
      exact ⟨(a, b), rfl, by have := of_decide_eq_true h1; show 0 < b; omega, of_decide_eq_true h2⟩
    · cases h
  · subst e
    show (decide (1 ≤ t.2) && decide (Int.gcd t.1 t.2 = 1)) = true
    rw [decide_eq_true (by have := l.pos; omega : 1 ≤ t.2), decide_eq_true l.cop]; rfl
theorem isFs_iff : ∀ {xs : List D}, xs.all isF = true ↔ ∃ ss : List (Int × Int), xs = ss.map fr ∧ ∀ s ∈ ss, Low s
  | [] => ⟨fun _ => ⟨[], rfl, fun _ h => by cases h⟩, fun _ => rfl⟩
  | x :: r => by
    rw [List.all_cons, Bool.and_eq_true_iff, isF_iff, isFs_iff (xs := r)]
    refine ⟨fun ⟨⟨t, e, l⟩, ss, e2, l2⟩ => ⟨t :: ss, by rw [e, e2]; rfl, fun s hs => ?_⟩, fun ⟨ss, e, l⟩ => ?_⟩
    · rcases List.mem_cons.mp hs with rfl | hs
      · exact l
      · exact l2 s hs
    · cases ss with
      | nil => cases e
      | cons t ss =>
        rw [List.map_cons] at e
        injection e with e1 e2
        exact ⟨⟨t, e1, l t List.mem_cons_self⟩, ss, e2, fun s hs => l s (List.mem_cons_of_mem _ hs)⟩
theorem fr_inj {t u : Int × Int} (h : fr t = fr u) : t = u := by
  obtain ⟨a, b⟩ := t
  obtain ⟨c, d⟩ := u
  unfold fr at h
  simp only [D.tup.injEq, List.cons.injEq, D.int.injEq, and_true] at h
  rw [h.1, h.2]
theorem frs_inj : ∀ {ss ts : List (Int × Int)}, ss.map fr = ts.map fr → ss = ts
  | [], [], _ => rfl
  | [], _ :: _, h => by cases h
  | _ :: _, [], h => by cases h
  | s :: ss, t :: ts, h => by
    rw [List.map_cons, List.map_cons] at h
    injection h with h1 h2
    rw [fr_inj h1, frs_inj h2]
theorem any_fb {n : Nat} {t : Int × Int} (h : AnyX n (fr t)) (l : Low t) : FB n n t := by
  obtain ⟨a, b⟩ := t
  have h1 := (h.tup.2 (.int a) (by simp)).int
  have h2 := (h.tup.2 (.int b) (by simp)).int
  refine ⟨h1, h2, l.pos, fun z => ?_⟩
  have z' : a = 0 := z
  subst z'
  have c := l.cop
  have hp := l.pos
  simp only [Int.gcd_zero_left] at c hp
  show b = 1
  omega
theorem any_fbs {n : Nat} {ss : List (Int × Int)} (h : AnyX n (.lst (ss.map fr))) (l : ∀ s ∈ ss, Low s) : ∀ s ∈ ss, FB n n s :=
  fun s hs => any_fb (h.lst.2 _ (List.mem_map_of_mem hs)) (l s hs)
theorem anyx_fr {n : Nat} {t : Int × Int} (h : FB n n t) : AnyX n (fr t) := AnyX.tup2 (.int' h.top) (.int' h.bot)
theorem anyx_frs {n : Nat} {ss : List (Int × Int)} (hl : ss.length ≤ 1000) (h : ∀ s ∈ ss, FB n n s) : AnyX n (.lst (ss.map fr)) := AnyX.mkL (by rw [List.length_map]; exact hl) fun x hx => by
  obtain ⟨s, hs, rfl⟩ := List.mem_map.mp hx
  exact anyx_fr (h s hs)
/-- a list of so many fractions -/
def Fra (n : Int) (d : D) : Prop := ∃ ss : List (Int × Int), d = .lst (ss.map fr) ∧ (ss.length : Int) = n ∧ ∀ s ∈ ss, Low s
theorem all_true2 {α : Type} (f : α → Bool) (xs : List α) : ∃ bs, blsOf (xs.map fun x => D.bl (f x)) = some bs ∧ bs.all id = xs.all f := ⟨_, bls_map f xs, by rw [List.all_map]; rfl⟩
def sp_p_is_one_of : FS := fun ds ms P => match ds with
  | [.int n, d] => (∃ a, tyD d = some a) ∧ P (.bl (isAt n d)) ms
  | _ => False
theorem len_p_is_one_of : ∀ ds ms Q, sp_p_is_one_of ds ms Q → ds.length = 2 := fun ds ms Q h => by
  unfold sp_p_is_one_of at h
  split at h <;> first | rfl | exact h.elim
def t_p_is_one_of : DTS := dRet (dAndV (dCall 1 0 [0] sp_p_is_whole (aCons (dVar 1) (aNil)) (aNil)) (dChain fLe fLt (dC (.int 0)) (dVar 1) (dVar 0)))
theorem sem_p_is_one_of : ∀ ds ms Q, sp_p_is_one_of ds ms Q → t_p_is_one_of { nx := fun _ m => Q .non m, rt := Q } (startD 2 ds) ms := by
  intro ds ms Q h
  unfold sp_p_is_one_of at h
  split at h
  · rename_i n d
    obtain ⟨⟨a, e⟩, h⟩ := h
    simp only [startD]
    unfold t_p_is_one_of
    walk_at "st"
    refine ⟨⟨a, e⟩, ?_⟩
    walk_at "st"
    cases d with
    | int i =>
      refine w_iteT rfl ?_
      walk_at "st"
      have h : Q (.bl (decide (0 ≤ i) && decide (i < n))) ms := h
      cases h0 : decide (0 ≤ i) with
      | true =>
        rw [h0] at h
        refine w_iteT rfl ?_
        walk_at "st"
        exact h
      | false =>
        rw [h0] at h
        refine w_iteF rfl ?_
        walk_at "st"
        exact h
    | _ =>
      refine w_iteF rfl ?_
      walk_at "st"
      exact h
  · exact h.elim
theorem ok_p_is_one_of (T : Tx P K mg) : FnG P w K mg base 2 T.f_p_is_one_of T.d_p_is_one_of ["many", "thing"] (spD K sp_p_is_one_of) := by
  have G_p_is_whole := ok_p_is_whole (P := P) (w := w) (base := base) T
  exact fnG_of (k := 1) (t := t_p_is_one_of) T.F_p_is_one_of sc_p_is_one_of len_p_is_one_of
    (fun cdv A outer s H hr => pds_one (pds_ret (pd_and (pd_call G_p_is_whole (hr.mono (by decide)) rfl T.g_p_is_whole T.F_p_is_whole.kp T.b_p_is_whole_1 (pda_cons (pd_var 1) (pda_nil))) (pd_one (pd_chain op_le opd_le op_lt opd_lt (pd_int) (pd_var 1) (pd_var 0))))))
    sem_p_is_one_of
/-! p_look_at_many -/
def sp_p_look_at_many : FS := fun ds ms P => match ds with
  | [.int i] => 0 ≤ i ∧ i ≤ 8 ∧ P .non ms
  | _ => False
theorem len_p_look_at_many : ∀ ds ms Q, sp_p_look_at_many ds ms Q → ds.length = 1 := fun ds ms Q h => by
  unfold sp_p_look_at_many at h
  split at h <;> first | rfl | exact h.elim
def t_p_look_at_many : DTS := dIfS (dOr (dNot (dTest (dCall 1 0 [0] sp_p_is_whole (aCons (dVar 0) (aNil)) (aNil)))) (dOr (dTest (dOp fLt (dVar 0) (dC (.int 0)))) (dTest (dOp fGt (dVar 0) (dC (.int 8)))))) (dNever) (dNext)
theorem sem_p_look_at_many : ∀ ds ms Q, sp_p_look_at_many ds ms Q → t_p_look_at_many { nx := fun _ m => Q .non m, rt := Q } (startD 1 ds) ms := by
  intro ds ms Q h
  unfold sp_p_look_at_many at h
  split at h
  · rename_i i
    obtain ⟨h0, h8, h⟩ := h
    simp only [startD]
    unfold t_p_look_at_many
    walk_at "st"
    refine ⟨⟨_, rfl⟩, ?_⟩
    walk_at "st"
    refine w_iteF (decide_eq_false (by omega)) ?_
    walk_at "st"
    refine w_iteF (decide_eq_false (by omega)) ?_
    walk_at "st"
    exact h
  · exact h.elim
theorem ok_p_look_at_many (T : Tx P K mg) : FnG P w K mg base 2 T.f_p_look_at_many T.d_p_look_at_many ["many"] (spD K sp_p_look_at_many) := by
  have G_p_is_whole := ok_p_is_whole (P := P) (w := w) (base := base) T
  exact fnG_of (k := 1) (t := t_p_look_at_many) T.F_p_look_at_many sc_p_look_at_many len_p_look_at_many
    (fun cdv A outer s H hr => pds_one (pds_if (pdt_w (pdw_or (pdt_not (pdt_val (pd_call G_p_is_whole (hr.mono (by decide)) rfl T.g_p_is_whole T.F_p_is_whole.kp T.b_p_is_whole_1 (pda_cons (pd_var 0) (pda_nil))))) (pdw_or (pdt_cmp op_lt opd_lt (pd_var 0) (pd_int)) (pdw_or1 (pdt_cmp op_gt opd_gt (pd_var 0) (pd_glob (v := .int (8)) rfl T.c_MOST_NUMBERS ⟨_, rfl⟩ (fun _ => .int _))))))) (pds_one (pds_never)) (pds_nil)))
    sem_p_look_at_many
/-! p_is_line -/
theorem ints_any : ∀ is : List Int, ∃ N, ∀ i ∈ is, Bd N i
  | [] => ⟨0, fun _ h => by cases h⟩
  | i :: r => by
    obtain ⟨N, h⟩ := ints_any r
    refine ⟨max i.natAbs N, fun j hj => ?_⟩
    rcases List.mem_cons.mp hj with rfl | hj
    · exact (show Bd j.natAbs j from Nat.lt_two_pow_self).mono (Nat.le_max_left ..)
    · exact (h j hj).mono (Nat.le_max_right ..)
theorem anyx_ints {n : Nat} {is : List Int} (hl : is.length ≤ 1000) (h : ∀ i ∈ is, Bd n i) : AnyX n (.lst (is.map D.int)) := AnyX.mkL (by rw [List.length_map]; exact hl) fun x hx => by
  obtain ⟨i, hi, rfl⟩ := List.mem_map.mp hx
  exact .int' (h i hi)
/-- a line over so many numbers -/
def Lin (n : Int) (d : D) : Prop := ∃ is : List Int, d = .lst (is.map D.int) ∧ (is.length : Int) = n + 1
def sp_p_is_line : FS := fun ds ms P => match ds with
  | [.int i, d] => 0 ≤ i ∧ i ≤ 8 ∧ ∃ N, AnyX N d ∧ P (.bl (tf (Lin i d))) ms
  | _ => False
theorem len_p_is_line : ∀ ds ms Q, sp_p_is_line ds ms Q → ds.length = 2 := fun ds ms Q h => by
  unfold sp_p_is_line at h
  split at h <;> first | rfl | exact h.elim
def t_p_is_line : DTS := dSeq (dDrop (dCall 1 0 [0] sp_p_look_at_many (aCons (dVar 0) (aNil)) (aNil))) (dSeq (dIfS (dOr (dNot (dTest (dIsi .list (dVar 1)))) (dTest (dOp fNe (dCB cLen (aCons (dVar 1) (aNil))) (dOp fAdd (dVar 0) (dC (.int 1)))))) (dRet (dC (.bl false))) (dNext)) (dRet (dCB cAll (aCons (dLc (iSeq (dVar 1)) (sName 2) (dYes) (dCall 1 0 [0] sp_p_is_whole (aCons (dVar 2) (aNil)) (aNil)) [2]) (aNil)))))
theorem isWs_iff : ∀ {xs : List D}, xs.all isW = true ↔ ∃ is : List Int, xs = is.map D.int
  | [] => ⟨fun _ => ⟨[], rfl⟩, fun _ => rfl⟩
  | x :: r => by
    rw [List.all_cons, Bool.and_eq_true_iff, isWs_iff (xs := r)]
    refine ⟨fun ⟨h, is, e⟩ => ?_, fun ⟨is, e⟩ => ?_⟩
    · cases x with
      | int i => exact ⟨i :: is, by rw [e]; rfl⟩
      | _ => cases h
    · cases is with
      | nil => cases e
      | cons k is =>
        rw [List.map_cons] at e
        injection e with e1 e2
        subst e1
        exact ⟨rfl, is, e2⟩
theorem sem_p_is_line : ∀ ds ms Q, sp_p_is_line ds ms Q → t_p_is_line { nx := fun _ m => Q .non m, rt := Q } (startD 3 ds) ms := by
  intro ds ms Q h
  unfold sp_p_is_line at h
  split at h
  · rename_i i d
    obtain ⟨i0, i8, N, an, h⟩ := h
    obtain ⟨a, e⟩ := an.ty
    simp only [startD]
    unfold t_p_is_line
    walk_at "st"
    refine ⟨i0, i8, ?_⟩
    walk_at "st"
    cases d with
    | lst xs =>
      obtain ⟨hl, ok⟩ := an.lst
      walk_at "st"
      cases hb : (xs.length : Int) == i + 1 with
      | false =>
        refine w_iteT rfl ?_
        walk_at "st"
        refine tf_f h fun ⟨is, e1, e2⟩ => ?_
        injection e1 with e1
        rw [e1, List.length_map, beq_eq_false_iff_ne] at hb
        exact hb e2
      | true =>
        refine w_iteF rfl ?_
        walk_at "st"
        refine comp_pure (fun x => .bl (isW x)) xs [] _ (by simp; omega) (fun x hx P0 q => ?_) ?_
        · walk_at "st"
          exact ⟨(ok x hx).ty, q⟩
        rw [List.nil_append]
        walk_at "st"
        refine w_all (bls_map isW xs) ?_
        rw [all_id]
        walk_at "st"
        refine tf_e h ?_
        rw [isWs_iff]
        refine ⟨fun ⟨is, e1⟩ => ⟨is, by rw [e1], ?_⟩, fun ⟨is, e1, _⟩ => ?_⟩
        · have := beq_iff_eq.mp hb
          rw [e1, List.length_map] at this
          exact this
        · injection e1 with e1
          exact ⟨is, e1⟩
    | _ => cases e <;> (walk_at "st"; exact tf_f h fun ⟨_, e1, _⟩ => by cases e1)
  · exact h.elim
theorem ok_p_is_line (T : Tx P K mg) : FnG P w K mg base 3 T.f_p_is_line T.d_p_is_line ["many", "thing"] (spD K sp_p_is_line) := by
  have G_p_look_at_many := ok_p_look_at_many (P := P) (w := w) (base := base) T
  have G_p_is_whole := ok_p_is_whole (P := P) (w := w) (base := base) T
  exact fnG_of (k := 2) (t := t_p_is_line) T.F_p_is_line sc_p_is_line len_p_is_line
    (fun cdv A outer s H hr => pds_cons (pds_expr (pd_call G_p_look_at_many (hr.mono (by decide)) rfl T.g_p_look_at_many T.F_p_look_at_many.kp T.b_p_look_at_many_1 (pda_cons (pd_var 0) (pda_nil)))) (pds_cons (pds_if (pdt_w (pdw_or (pdt_not (pdt_val (pd_isi .list (by decide) rfl T.n_isinstance rfl T.n_list (by decide +kernel) (by decide) (by decide) (pd_var 1)))) (pdw_or1 (pdt_cmp (op_neF hr.r.units) opd_ne (pd_callB call_len cal_len rfl T.n_len (by decide +kernel) (pda_cons (pd_var 1) (pda_nil))) (pd_op op_addD opd_add (pd_var 0) (pd_int)))))) (pds_one (pds_ret (pd_bl))) (pds_nil)) (pds_one (pds_ret (pd_callB (cr_all rfl) cal_all rfl T.n_all (by decide +kernel) (pda_cons (pd_lc (own := [("part", 2)]) rfl sc_p_is_line.nd (pdi_list (pd_var 1)) (blkOk_by (own := [("part", 2)]) (by kernel_rfl)) (fun _ _ _ _ _ => pg_name (i := 2) sc_p_is_line.nd rfl (by first | exact .inl rfl | exact .inr rfl)) (tg_name (i := 2) (by decide)) (mon_name (i := 2)) (fun _ _ _ _ _ => pdts_nil) (fun _ _ _ _ _ => pd_call G_p_is_whole (hr.mono (by decide)) rfl T.g_p_is_whole T.F_p_is_whole.kp T.b_p_is_whole_1 (pda_cons (pd_var 2) (pda_nil)))) (pda_nil)))))))
    sem_p_is_line
/-! p_is_wish -/
def sp_p_is_wish : FS := fun ds ms P => match ds with
  | [.int i, d] => ∃ w, d = wiD w ∧ 0 ≤ i ∧ i ≤ 8 ∧ (w.fs.length : Int) = i ∧ P (.bl true) ms
  | _ => False
theorem len_p_is_wish : ∀ ds ms Q, sp_p_is_wish ds ms Q → ds.length = 2 := fun ds ms Q h => by
  unfold sp_p_is_wish at h
  split at h <;> first | rfl | exact h.elim
def t_p_is_wish : DTS := dSeq (dDrop (dCall 1 0 [0] sp_p_look_at_many (aCons (dVar 0) (aNil)) (aNil))) (dSeq (dIfS (dOr (dNot (dTest (dIsi .tuple (dVar 1)))) (dTest (dOp fNe (dCB cLen (aCons (dVar 1) (aNil))) (dC (.int 2))))) (dRet (dC (.bl false))) (dNext)) (dSeq (dAsg (dVar 1) (sTup 2 (sCons (sName 2) (sCons (sName 3) (sNil))))) (dSeq (dIfS (dOr (dNot (dTest (dIsi .str (dVar 2)))) (dTest (dOp fNotIn (dVar 2) (dTup (aCons (dC (.str "least")) (aCons (dC (.str "just")) (aNil))))))) (dRet (dC (.bl false))) (dNext)) (dRet (dCall 2 0 [0, 1] sp_p_is_line (aCons (dVar 0) (aCons (dVar 3) (aNil))) (aNil))))))
theorem in_wd {j : Bool} {ms : MS} {P : D → MS → Prop} (q : P (.bl false) ms) : InOk (wdD j) [.str "least", .str "just"] true ms P := by
  have e : ([PyData.str "least", PyData.str "just"].any fun z => PyData.eqv z (.str (if j then "just" else "least" : String))) = true := by cases j <;> decide +kernel
  have h0 : (Str.ofString (if j then "just" else "least" : String)).cps.all (· < 0x110000) = true := ofString_ok _
  refine ⟨.str (Str.ofString (if j then "just" else "least" : String)), [.str "least", .str "just"], ?_, rfl, h0, Nat.zero_le _, by decide +kernel, ?_⟩
  · unfold wdD; cases j <;> rfl
  · rw [e]; exact q
theorem sem_p_is_wish : ∀ ds ms Q, sp_p_is_wish ds ms Q → t_p_is_wish { nx := fun _ m => Q .non m, rt := Q } (startD 4 ds) ms := by
  intro ds ms Q h
  unfold sp_p_is_wish at h
  split at h
  · rename_i i d
    obtain ⟨w, rfl, h0, h8, hl, h⟩ := h
    obtain ⟨N, hN⟩ := ints_any (w.l :: w.fs)
    simp only [startD]
    unfold t_p_is_wish
    walk_at "st"
    refine ⟨h0, h8, ?_⟩
    walk_at "st"
    unfold wiD
    walk_at "st"
    refine in_wd ?_
    walk_at "st"
    refine ⟨h0, h8, N, anyx_ints (is := w.l :: w.fs) (by rw [List.length_cons]; omega) hN, ?_⟩
    rw [show tf (Lin i (.lst (D.int w.l :: w.fs.map D.int))) = true from tf_yes ⟨w.l :: w.fs, rfl, by rw [List.length_cons]; omega⟩]
    exact h
  · exact h.elim
theorem ok_p_is_wish (T : Tx P K mg) : FnG P w K mg base 4 T.f_p_is_wish T.d_p_is_wish ["many", "thing"] (spD K sp_p_is_wish) := by
  have G_p_look_at_many := ok_p_look_at_many (P := P) (w := w) (base := base) T
  have G_p_is_line := ok_p_is_line (P := P) (w := w) (base := base) T
  exact fnG_of (k := 3) (t := t_p_is_wish) T.F_p_is_wish sc_p_is_wish len_p_is_wish
    (fun cdv A outer s H hr => pds_cons (pds_expr (pd_call G_p_look_at_many (hr.mono (by decide)) rfl T.g_p_look_at_many T.F_p_look_at_many.kp T.b_p_look_at_many_1 (pda_cons (pd_var 0) (pda_nil)))) (pds_cons (pds_if (pdt_w (pdw_or (pdt_not (pdt_val (pd_isi .tuple (by decide) rfl T.n_isinstance rfl T.n_tuple (by decide +kernel) (by decide) (by decide) (pd_var 1)))) (pdw_or1 (pdt_cmp (op_neF hr.r.units) opd_ne (pd_callB call_len cal_len rfl T.n_len (by decide +kernel) (pda_cons (pd_var 1) (pda_nil))) (pd_int))))) (pds_one (pds_ret (pd_bl))) (pds_nil)) (pds_cons (pds_asg (vs := [2, 3]) (pd_var 1) (pg_tup rfl (pgs_cons (pg_name (i := 2) sc_p_is_wish.nd rfl (.inl rfl)) (pgs_cons (pg_name (i := 3) sc_p_is_wish.nd rfl (.inl rfl)) (pgs_nil)))) (tg_tup (tgs_cons (tg_name (i := 2) (by decide)) (tgs_cons (tg_name (i := 3) (by decide)) (tgs_nil) (mon_name (i := 3))) (mon_name (i := 2))))) (pds_cons (pds_if (pdt_w (pdw_or (pdt_not (pdt_val (pd_isi .str (by decide) rfl T.n_isinstance rfl T.n_str (by decide +kernel) (by decide) (by decide) (pd_var 2)))) (pdw_or1 (pdt_cmp (op_notInF hr.r.units) opd_notIn (pd_var 2) (pd_tup (pda_cons (pd_glob (v := .str "least") rfl T.c_LEAST ⟨_, rfl⟩ (fun _ => .str _)) (pda_cons (pd_glob (v := .str "just") rfl T.c_JUST ⟨_, rfl⟩ (fun _ => .str _)) (pda_nil)))) (by rfl))))) (pds_one (pds_ret (pd_bl))) (pds_nil)) (pds_one (pds_ret (pd_call G_p_is_line (hr.mono (by decide)) rfl T.g_p_is_line T.F_p_is_line.kp T.b_p_is_line_2 (pda_cons (pd_var 0) (pda_cons (pd_var 3) (pda_nil))))))))))
    sem_p_is_wish
/-! p_is_numbers -/
def sp_p_is_numbers : FS := fun ds ms P => match ds with
  | [.int n, d] => ∃ N, AnyX N d ∧ N ≤ 4000 ∧ P (.bl (tf (Fra n d))) ms
  | _ => False
theorem len_p_is_numbers : ∀ ds ms Q, sp_p_is_numbers ds ms Q → ds.length = 2 := fun ds ms Q h => by
  unfold sp_p_is_numbers at h
  split at h <;> first | rfl | exact h.elim
def t_p_is_numbers : DTS := dSeq (dIfS (dOr (dNot (dTest (dIsi .list (dVar 1)))) (dTest (dOp fNe (dCB cLen (aCons (dVar 1) (aNil))) (dVar 0)))) (dRet (dC (.bl false))) (dNext)) (dRet (dCB cAll (aCons (dLc (iSeq (dVar 1)) (sName 2) (dYes) (dCall 1 0 [0] sp_p_is_fraction (aCons (dVar 2) (aNil)) (aNil)) [2]) (aNil))))
theorem sem_p_is_numbers : ∀ ds ms Q, sp_p_is_numbers ds ms Q → t_p_is_numbers { nx := fun _ m => Q .non m, rt := Q } (startD 3 ds) ms := by
  intro ds ms Q h
  unfold sp_p_is_numbers at h
  split at h
  · rename_i n d
    obtain ⟨N, an, hN, h⟩ := h
    obtain ⟨a, e⟩ := an.ty
    simp only [startD]
    unfold t_p_is_numbers
    walk_at "st"
    cases d with
    | lst xs =>
      obtain ⟨hl, ok⟩ := an.lst
      walk_at "st"
      cases hb : (xs.length : Int) == n with
      | false =>
        refine w_iteT rfl ?_
        walk_at "st"
        refine tf_f h fun ⟨ss, e1, e2, _⟩ => ?_
        injection e1 with e1
        rw [e1, List.length_map, beq_eq_false_iff_ne] at hb
        exact hb e2
      | true =>
        refine w_iteF rfl ?_
        walk_at "st"
        refine comp_pure (fun x => .bl (isF x)) xs [] _ (by simp; omega) (fun x hx P0 q => ?_) ?_
        · walk_at "st"
          exact ⟨(ok x hx).okF hN, q⟩
        · rw [List.nil_append]
          walk_at "st"
          refine w_all (bls_map isF xs) ?_
          have e : (xs.map isF).all id = xs.all isF := by rw [List.all_map]; rfl
          rw [e]
          walk_at "st"
          refine tf_e h ?_
          rw [isFs_iff]
          refine ⟨fun ⟨ss, e1, l⟩ => ⟨ss, by rw [e1], ?_, l⟩, fun ⟨ss, e1, _, l⟩ => ?_⟩
          · have := beq_iff_eq.mp hb
            rw [e1, List.length_map] at this
            exact this
          · injection e1 with e1
            exact ⟨ss, e1, l⟩
    | _ => cases e <;> (walk_at "st"; exact tf_f h fun ⟨_, e1, _⟩ => by cases e1)
  · exact h.elim
theorem ok_p_is_numbers (T : Tx P K mg) : FnG P w K mg base 3 T.f_p_is_numbers T.d_p_is_numbers ["many", "thing"] (spD K sp_p_is_numbers) := by
  have G_p_is_fraction := ok_p_is_fraction (P := P) (w := w) (base := base) T
  exact fnG_of (k := 2) (t := t_p_is_numbers) T.F_p_is_numbers sc_p_is_numbers len_p_is_numbers
    (fun cdv A outer s H hr => pds_cons (pds_if (pdt_w (pdw_or (pdt_not (pdt_val (pd_isi .list (by decide) rfl T.n_isinstance rfl T.n_list (by decide +kernel) (by decide) (by decide) (pd_var 1)))) (pdw_or1 (pdt_cmp (op_neF hr.r.units) opd_ne (pd_callB call_len cal_len rfl T.n_len (by decide +kernel) (pda_cons (pd_var 1) (pda_nil))) (pd_var 0))))) (pds_one (pds_ret (pd_bl))) (pds_nil)) (pds_one (pds_ret (pd_callB (cr_all rfl) cal_all rfl T.n_all (by decide +kernel) (pda_cons (pd_lc (own := [("part", 2)]) rfl sc_p_is_numbers.nd (pdi_list (pd_var 1)) (blkOk_by (own := [("part", 2)]) (by kernel_rfl)) (fun _ _ _ _ _ => pg_name (i := 2) sc_p_is_numbers.nd rfl (by first | exact .inl rfl | exact .inr rfl)) (tg_name (i := 2) (by decide)) (mon_name (i := 2)) (fun _ _ _ _ _ => pdts_nil) (fun _ _ _ _ _ => pd_call G_p_is_fraction (hr.mono (by decide)) rfl T.g_p_is_fraction T.F_p_is_fraction.kp T.b_p_is_fraction_1 (pda_cons (pd_var 2) (pda_nil)))) (pda_nil))))))
    sem_p_is_numbers
/-! p_worth -/
/-! lines, numbers, wishes -/
def lnD (l : Int) (fs : List Int) : D := .lst (.int l :: fs.map D.int)
def nsD (ns : List (Int × Int)) : D := .lst (ns.map fr)
/-- what is drawn is no larger -/
structure Fit (l : Int) (fs : List Int) (ns : List (Int × Int)) : Prop where
  l0 : Bd 600 l
  f0 : ∀ f ∈ fs, Bd 600 f
  n0 : ∀ n ∈ ns, FB 31 21 n
  len : fs.length ≤ 8
/-- of any size that fits -/
structure FitG (l : Int) (fs : List Int) (ns : List (Int × Int)) : Prop where
  ex : ∃ L N, Bd L l ∧ (∀ f ∈ fs, Bd L f) ∧ (∀ n ∈ ns, FB N N n) ∧ L + N + 2 + (N + 2) * fs.length ≤ 3800
  len : fs.length ≤ 100
theorem Fit.g {l : Int} {fs : List Int} {ns : List (Int × Int)} (h : Fit l fs ns) : FitG l fs ns :=
  ⟨⟨600, 31, h.l0, h.f0, fun n hn => (h.n0 n hn).mono (by decide) (by decide), by have := h.len; omega⟩, by have := h.len; omega⟩
theorem FitG.nil {l : Int} {fs : List Int} {ns : List (Int × Int)} (h : FitG l fs ns) : FitG 0 fs ns := by
  obtain ⟨L, N, h1, h2, h3, h4⟩ := h.ex
  exact ⟨⟨L, N, by unfold Bd; exact Nat.two_pow_pos L, h2, h3, h4⟩, h.len⟩
theorem fb_worG {L N : Nat} : ∀ (fs : List Int) (ns : List (Int × Int)) (t : Int × Int) (A B : Nat), FB A B t → (∀ f ∈ fs, Bd L f) → (∀ n ∈ ns, FB N N n) → L + B ≤ A + 1 →
    FB (A + (N + 2) * fs.length) (B + (N + 1) * fs.length) (worGo t fs ns)
  | [], _, t, A, B, h, _, _, _ => by unfold worGo; exact h.mono (by simp) (by simp)
  | f :: fs, [], t, A, B, h, _, _, _ => by unfold worGo; exact h.mono (Nat.le_add_right _ _) (Nat.le_add_right _ _)
  | f :: fs, n :: ns, t, A, B, h, hf, hn, hN => by
    unfold worGo
    have h1 := fb_mul (fb_int (hf f List.mem_cons_self)) (hn n List.mem_cons_self)
    have h2 := fb_add (k := A + N + 1) h h1 (by omega) (by omega)
    have h3 := fb_worG fs ns _ (A + N + 2) (B + (N + 1)) (h2.mono (by omega) (by omega)) (fun x hx => hf x (List.mem_cons_of_mem _ hx)) (fun x hx => hn x (List.mem_cons_of_mem _ hx)) (by omega)
    refine h3.mono ?_ ?_
    · rw [List.length_cons, Nat.mul_succ]; omega
    · rw [List.length_cons, Nat.mul_succ]; omega
theorem fb_worF {l : Int} {fs : List Int} {ns : List (Int × Int)} (h : FitG l fs ns) : FB 3900 3900 (wor l fs ns) := by
  obtain ⟨L, N, h1, h2, h3, h4⟩ := h.ex
  have e : (N + 2) * fs.length = (N + 1) * fs.length + fs.length := by rw [Nat.succ_mul]
  exact (fb_worG fs ns (l, 1) (L + 1) 1 ((fb_int h1).mono (by omega) (Nat.le_refl _)) h2 h3 (by omega)).mono (by omega) (by omega)
theorem wor_step {L N : Nat} {sP sT : FS} {tb : DTS} {E : EN} {ms : MS} {x0 x1 : Option D}
    (htb : tb = dAsg (dCall 2 0 [0, 1] sP (aCons (dVar 2) (aCons (dCall 2 0 [0, 1] sT (aCons (dTup (aCons (dVar 3) (aCons (dC (.int 1)) aNil))) (aCons (dVar 4) aNil)) aNil) aNil)) aNil) (sName 2))
    (hP : ∀ a b c d ms P, b ≠ 0 → d ≠ 0 → Bd 4000 a → Bd 4000 b → Bd 4000 c → Bd 4000 d → P (fr (addT (a, b) (c, d))) ms → sP [.tup [.int a, .int b], .tup [.int c, .int d]] ms P)
    (hT : ∀ a b c d ms P, b ≠ 0 → d ≠ 0 → Bd 4000 a → Bd 4000 b → Bd 4000 c → Bd 4000 d → P (fr (mulT (a, b) (c, d))) ms → sT [.tup [.int a, .int b], .tup [.int c, .int d]] ms P) :
    ∀ (fs : List Int) (ns : List (Int × Int)) (t : Int × Int) (A B : Nat) (x3 x4 : Option D), FB A B t → (∀ f ∈ fs, Bd L f) → (∀ n ∈ ns, FB N N n) → L + B ≤ A + 1 → A + (N + 2) * fs.length ≤ 3900 → L + N + 2 ≤ 3900 →
      (∀ x3 x4, E.nx [x0, x1, some (fr (worGo t fs ns)), x3, x4] ms) →
      loopD (sTup 2 (sCons (sName 3) (sCons (sName 4) sNil))) tb E (zipD (fs.map D.int) (ns.map fr)) [x0, x1, some (fr t), x3, x4] ms := by
  subst htb
  intro fs
  induction fs with
  | nil => intro ns t A B x3 x4 _ _ _ _ _ _ q; exact q x3 x4
  | cons f fs ih =>
    intro ns t A B x3 x4 ht hf hn hN hl hM q
    cases ns with
    | nil => exact q x3 x4
    | cons n ns =>
      have hf0 := hf f List.mem_cons_self
      have hn0 := hn n List.mem_cons_self
      have h1 := fb_mul (fb_int hf0) hn0
      have h2 := fb_add (k := A + N + 1) ht h1 (by omega) (by omega)
      rw [List.length_cons, Nat.mul_succ] at hl
      show loopD _ _ _ (.tup [.int f, fr n] :: zipD (fs.map D.int) (ns.map fr)) _ _
      unfold loopD
      walk_at "dl"
      refine ⟨by decide, hT _ _ _ _ _ _ (by decide) hn0.ne (hf0.mono (by omega)) (show Bd 4000 (1 : Int) from (show Bd 1 (1 : Int) by unfold Bd; decide).mono (by decide)) (hn0.top.mono (by omega)) (hn0.bot.mono (by omega)) ?_⟩
      refine hP _ _ _ _ _ _ ht.ne h1.ne (ht.top.mono (by omega)) (ht.bot.mono (by omega)) (h1.top.mono (by omega)) (h1.bot.mono (by omega)) ?_
      exact ih ns _ (A + N + 2) (B + N + 1) _ _ (h2.mono (by omega) (by omega)) (fun x hx => hf x (List.mem_cons_of_mem _ hx)) (fun x hx => hn x (List.mem_cons_of_mem _ hx)) (by omega) (by omega) hM q
def sp_p_worth : FS := fun ds ms P => match ds with
  | [.lst xs, .lst ys] => ∃ l fs ns, xs = .int l :: fs.map D.int ∧ ys = ns.map fr ∧ FitG l fs ns ∧ P (fr (wor l fs ns)) ms
  | _ => False
theorem len_p_worth : ∀ ds ms Q, sp_p_worth ds ms Q → ds.length = 2 := fun ds ms Q h => by
  unfold sp_p_worth at h
  split at h <;> first | rfl | exact h.elim
def t_p_worth : DTS := dSeq (dAsg (dTup (aCons (dOp fIx (dVar 0) (dC (.int 0))) (aCons (dC (.int 1)) (aNil)))) (sName 2)) (dSeq (dFor (iZipD (aCons (dSl (dVar 0) (oSome (dC (.int 1))) (oNone)) (aCons (dVar 1) (aNil)))) (sTup 2 (sCons (sName 3) (sCons (sName 4) (sNil)))) (dAsg (dCall 2 0 [0, 1] sp_p_plus (aCons (dVar 2) (aCons (dCall 2 0 [0, 1] sp_p_times (aCons (dTup (aCons (dVar 3) (aCons (dC (.int 1)) (aNil)))) (aCons (dVar 4) (aNil))) (aNil)) (aNil))) (aNil)) (sName 2))) (dRet (dVar 2)))
theorem sem_p_worth : ∀ ds ms Q, sp_p_worth ds ms Q → t_p_worth { nx := fun _ m => Q .non m, rt := Q } (startD 5 ds) ms := by
  intro ds ms Q h
  unfold sp_p_worth at h
  split at h
  · obtain ⟨l, fs, ns, rfl, rfl, hF, h⟩ := h
    unfold t_p_worth
    walk_at "dl"
    simp only [fIx, asL, atI_0, fSl, cut_1]
    obtain ⟨L, N, h1, h2, h3, h4⟩ := hF.ex
    refine ⟨by decide, wor_step (L := L) (N := N) rfl (fun a b c d ms P h1 h2 h3 h4 h5 h6 q => ⟨⟨h1, h2, h3, h4, h5, h6⟩, q⟩) (fun a b c d ms P h1 h2 h3 h4 h5 h6 q => ⟨⟨h1, h2, h3, h4, h5, h6⟩, q⟩) fs ns (l, 1) (L + 1) 1 none none ((fb_int h1).mono (by omega) (Nat.le_refl _)) h2 h3 (by omega) (by omega) (by omega) fun x3 x4 => ?_⟩
    walk_at "dl"
    exact h
  · exact h.elim
theorem ok_p_worth (T : Tx P K mg) : FnG P w K mg base 4 T.f_p_worth T.d_p_worth ["line", "numbers"] (spD K sp_p_worth) := by
  have G_p_plus := ok_p_plus (P := P) (w := w) (base := base) T
  have G_p_times := ok_p_times (P := P) (w := w) (base := base) T
  exact fnG_of (k := 3) (t := t_p_worth) T.F_p_worth sc_p_worth len_p_worth
    (fun cdv A outer s H hr => pds_cons (pds_set (i := 2) sc_p_worth.nd rfl (.inl rfl) (pd_tup (pda_cons (pd_ix ix_seq opd_ix (pd_var 0) (pd_int)) (pda_cons (pd_int) (pda_nil))))) (pds_cons (pds_for (vs := [3, 4]) rfl (pdi_zip rfl T.n_zip (pda_cons (pd_slice (pd_var 0) (pdo_some (pd_int)) (pdo_none)) (pda_cons (pd_var 1) (pda_nil)))) (pg_tup rfl (pgs_cons (pg_name (i := 3) sc_p_worth.nd rfl (.inl rfl)) (pgs_cons (pg_name (i := 4) sc_p_worth.nd rfl (.inl rfl)) (pgs_nil)))) (tg_tup (tgs_cons (tg_name (i := 3) (by decide)) (tgs_cons (tg_name (i := 4) (by decide)) (tgs_nil) (mon_name (i := 4))) (mon_name (i := 3)))) (pds_one (pds_set (i := 2) sc_p_worth.nd rfl (.inl rfl) (pd_call G_p_plus (hr.mono (by decide)) rfl T.g_p_plus T.F_p_plus.kp T.b_p_plus_2 (pda_cons (pd_var 2) (pda_cons (pd_call G_p_times (hr.mono (by decide)) rfl T.g_p_times T.F_p_times.kp T.b_p_times_2 (pda_cons (pd_tup (pda_cons (pd_var 3) (pda_cons (pd_int) (pda_nil)))) (pda_cons (pd_var 4) (pda_nil)))) (pda_nil))))))) (pds_one (pds_ret (pd_var 2)))))
    sem_p_worth
/-! p_comes_to -/
/-! what numbers want, by their worth -/
def dtR : List Int → List Rat → Rat
  | f :: fs, n :: ns => (f : Rat) * n + dtR fs ns
  | [], _ => 0
  | _ :: _, [] => 0
theorem val_wgo : ∀ (fs : List Int) (ns : List (Int × Int)) (t : Int × Int), Low t → (∀ n ∈ ns, Low n) → Low (worGo t fs ns) ∧ val (worGo t fs ns) = val t + dtR fs (ns.map val)
  | [], ns, t, ht, _ => by
    unfold worGo dtR
    exact ⟨ht, by grind⟩
  | f :: fs, [], t, ht, _ => by
    unfold worGo
    exact ⟨ht, by show val t = val t + dtR (f :: fs) []; unfold dtR; grind⟩
  | f :: fs, n :: ns, t, ht, hn => by
    have h0 := hn n List.mem_cons_self
    have hm : Low (mulT (f, 1) n) := low_mul (p := (f, 1)) (by show (1 : Int) ≠ 0; decide) h0.ne
    have ha : Low (addT t (mulT (f, 1) n)) := low_add ht.ne hm.ne
    obtain ⟨h1, h2⟩ := val_wgo fs ns _ ha fun x hx => hn x (List.mem_cons_of_mem _ hx)
    unfold worGo
    refine ⟨h1, ?_⟩
    rw [h2, val_add ht.ne hm.ne, val_mul (p := (f, 1)) (by show (1 : Int) ≠ 0; decide) h0.ne, val_int, List.map_cons]
    show val t + (f : Rat) * val n + dtR fs (ns.map val) = val t + ((f : Rat) * val n + dtR fs (ns.map val))
    grind
/-- a wish is met: its plain number so many times, its factors by these numbers -/
structure Wan (w : Wi) (m : Int × Int) (ns : List (Int × Int)) : Prop where
  nn : 0 ≤ (w.l : Rat) * val m + dtR w.fs (ns.map val)
  z : w.j = true → (w.l : Rat) * val m + dtR w.fs (ns.map val) = 0
def sp_p_comes_to : FS := fun ds ms P => match ds with
  | [.lst xs, .tup [.int a, .int b], .lst ys] => ∃ (ws : List Wi) (ns : List (Int × Int)), xs = ws.map wiD ∧ ys = ns.map fr ∧ Low (a, b) ∧ FB 150 150 (a, b) ∧ (∀ n ∈ ns, Low n) ∧ (∀ w ∈ ws, FitG w.l w.fs ns) ∧ P (.bl (tf (∀ w ∈ ws, Wan w (a, b) ns))) ms
  | _ => False
theorem len_p_comes_to : ∀ ds ms Q, sp_p_comes_to ds ms Q → ds.length = 3 := fun ds ms Q h => by
  unfold sp_p_comes_to at h
  split at h <;> first | rfl | exact h.elim
def t_p_comes_to : DTS := dSeq (dFor (iSeq (dVar 0)) (sTup 2 (sCons (sName 3) (sCons (sName 4) (sNil)))) (dSeq (dAsg (dCall 2 0 [0, 1] sp_p_plus (aCons (dCall 2 0 [0, 1] sp_p_times (aCons (dTup (aCons (dOp fIx (dVar 4) (dC (.int 0))) (aCons (dC (.int 1)) (aNil)))) (aCons (dVar 1) (aNil))) (aNil)) (aCons (dCall 2 0 [0, 1] sp_p_worth (aCons (dLst (aCons (dC (.int 0)) (aStar (dSl (dVar 4) (oSome (dC (.int 1))) (oNone)) (aNil)))) (aCons (dVar 2) (aNil))) (aNil)) (aNil))) (aNil)) (sName 5)) (dIfS (dOr (dTest (dOp fLt (dOp fIx (dVar 5) (dC (.int 0))) (dC (.int 0)))) (dAnd (dTest (dOp fEq (dVar 3) (dC (.str "just")))) (dTest (dOp fNe (dVar 5) (dC k_NOUGHT))))) (dRet (dC (.bl false))) (dNext)))) (dRet (dC (.bl true)))
theorem sem_p_comes_to : ∀ ds ms Q, sp_p_comes_to ds ms Q → t_p_comes_to { nx := fun _ m => Q .non m, rt := Q } (startD 6 ds) ms := by
  intro ds ms Q h
  unfold sp_p_comes_to at h
  split at h
  · rename_i xs a b ys
    obtain ⟨ws, ns, rfl, rfl, lm, fm, ln, hw, h⟩ := h
    simp only [startD]
    unfold t_p_comes_to
    walk_at "st"
    refine loop_all wiD (fun w => tf (Wan w (a, b) ns)) (fun ds => ∃ x3 x4 x5, ds = [some (.lst (ws.map wiD)), some (.tup [.int a, .int b]), some (.lst (ns.map fr)), x3, x4, x5]) ws _ ⟨_, _, _, rfl⟩ ?_ (fun z ds hI => ?_) (fun z => ?_)
    · rintro w hw' ds ⟨x3, x4, x5, rfl⟩ G hG hR
      have hF := hw w hw'
      have h0 := hF.nil
      obtain ⟨L, N, k1, k2, k3, k4⟩ := hF.ex
      have one : ((w.l, 1) : Int × Int).2 ≠ 0 := by show (1 : Int) ≠ 0; decide
      have hm := fb_mul (fb_int k1) fm
      have lmm : Low (mulT (w.l, 1) (a, b)) := low_mul one lm.ne
      have hv := fb_worF h0
      obtain ⟨lv0, ev0⟩ := val_wgo w.fs ns (0, 1) (low_int 0) ln
      have lv : Low (wor 0 w.fs ns) := lv0
      have ev : val (wor 0 w.fs ns) = val (0, 1) + dtR w.fs (ns.map val) := ev0
      have lc : Low (addT (mulT (w.l, 1) (a, b)) (wor 0 w.fs ns)) := low_add lmm.ne lv.ne
      have vc : val (addT (mulT (w.l, 1) (a, b)) (wor 0 w.fs ns)) = (w.l : Rat) * val (a, b) + dtR w.fs (ns.map val) := by
        rw [val_add lmm.ne lv.ne, val_mul one lm.ne, val_int, ev, val_int, Rat.intCast_zero]
        grind
      unfold wiD
      walk_at "st"
      refine ⟨⟨one, lm.ne, k1.mono (by omega), (show Bd 1 (1 : Int) by unfold Bd; decide).mono (by decide), fm.top.mono (by decide), fm.bot.mono (by decide)⟩, ?_⟩
      walk_at "st"
      rw [cut_1, List.append_nil]
      have hl8 := hF.len
      refine ⟨size_ok (by rw [List.length_cons, List.length_map]; omega), ?_⟩
      walk_at "st"
      refine ⟨0, w.fs, ns, rfl, rfl, h0, ?_⟩
      walk_at "st"
      refine ⟨⟨lmm.ne, lv.ne, hm.top.mono (by omega), hm.bot.mono (by omega), hv.top.mono (by decide), hv.bot.mono (by decide)⟩, ?_⟩
      have ec : addT ((mulT (w.l, 1) (a, b)).1, (mulT (w.l, 1) (a, b)).2) ((wor 0 w.fs ns).1, (wor 0 w.fs ns).2) = addT (mulT (w.l, 1) (a, b)) (wor 0 w.fs ns) := rfl
      rw [ec]
      generalize addT (mulT (w.l, 1) (a, b)) (wor 0 w.fs ns) = c at lc vc
      unfold fr
      walk_at "st"
      by_cases c0 : c.1 < 0
      · rw [decide_eq_true c0]
        walk_at "st"
        refine hR (tf_no fun W => ?_)
        have := (val_nonneg lc.pos).mp (by rw [vc]; exact W.nn)
        omega
      rw [decide_eq_false c0]
      have nn : 0 ≤ (w.l : Rat) * val (a, b) + dtR w.fs (ns.map val) := by rw [← vc]; exact (val_nonneg lc.pos).mpr (by omega)
      cases hj : w.j with
      | false =>
        rw [show wdD false = D.str (Str.ofString "least") from rfl]
        walk_at "st"
        exact hG (tf_yes ⟨nn, fun z => by rw [hj] at z; cases z⟩) _ ⟨_, _, _, rfl⟩
      | true =>
        rw [show wdD true = D.str (Str.ofString "just") from rfl]
        walk_at "st"
        refine (show ShD _ ∧ ShD k_NOUGHT ∧ _ from ⟨⟨_, rfl, rfl⟩, ⟨_, rfl, rfl⟩, ?_⟩)
        have e2 : eqD (.tup [.int c.1, .int c.2]) k_NOUGHT = decide (c = (0, 1)) := by
          show ((c.1 == 0) && ((c.2 == 1) && true)) = decide (c = (0, 1))
          obtain ⟨c1, c2⟩ := c
          rw [Bool.and_true, Bool.eq_iff_iff, Bool.and_eq_true_iff, beq_iff_eq, beq_iff_eq, decide_eq_true_iff]
          exact ⟨fun ⟨a, b⟩ => by rw [show c1 = 0 from a, show c2 = 1 from b], fun z => ⟨congrArg Prod.fst z, congrArg Prod.snd z⟩⟩
        rw [e2]
        by_cases cz : c = (0, 1)
        · rw [decide_eq_true cz]
          walk_at "st"
          exact hG (tf_yes ⟨nn, fun _ => by rw [← vc]; exact (val_nought lc).mpr cz⟩) _ ⟨_, _, _, rfl⟩
        · rw [decide_eq_false cz]
          walk_at "st"
          exact hR (tf_no fun W => cz ((val_nought lc).mp (by rw [vc]; exact W.z hj)))
    · obtain ⟨x3, x4, x5, rfl⟩ := hI
      walk_at "st"
      exact tf_t h ((tfs_all _ _).mp z)
    · refine tf_f h fun G => ?_
      rw [(tfs_all _ _).mpr G] at z
      cases z
  · exact h.elim
theorem ok_p_comes_to (T : Tx P K mg) : FnG P w K mg base 5 T.f_p_comes_to T.d_p_comes_to ["wishes", "many", "numbers"] (spD K sp_p_comes_to) := by
  have G_p_plus := ok_p_plus (P := P) (w := w) (base := base) T
  have G_p_times := ok_p_times (P := P) (w := w) (base := base) T
  have G_p_worth := ok_p_worth (P := P) (w := w) (base := base) T
  exact fnG_of (k := 4) (t := t_p_comes_to) T.F_p_comes_to sc_p_comes_to len_p_comes_to
    (fun cdv A outer s H hr => pds_cons (pds_for (vs := [3, 4]) rfl (pdi_list (pd_var 0)) (pg_tup rfl (pgs_cons (pg_name (i := 3) sc_p_comes_to.nd rfl (.inl rfl)) (pgs_cons (pg_name (i := 4) sc_p_comes_to.nd rfl (.inl rfl)) (pgs_nil)))) (tg_tup (tgs_cons (tg_name (i := 3) (by decide)) (tgs_cons (tg_name (i := 4) (by decide)) (tgs_nil) (mon_name (i := 4))) (mon_name (i := 3)))) (pds_cons (pds_set (i := 5) sc_p_comes_to.nd rfl (.inl rfl) (pd_call G_p_plus (hr.mono (by decide)) rfl T.g_p_plus T.F_p_plus.kp T.b_p_plus_2 (pda_cons (pd_call G_p_times (hr.mono (by decide)) rfl T.g_p_times T.F_p_times.kp T.b_p_times_2 (pda_cons (pd_tup (pda_cons (pd_ix ix_seq opd_ix (pd_var 4) (pd_int)) (pda_cons (pd_int) (pda_nil)))) (pda_cons (pd_var 1) (pda_nil)))) (pda_cons (pd_call G_p_worth (hr.mono (by decide)) rfl T.g_p_worth T.F_p_worth.kp T.b_p_worth_2 (pda_cons (pd_lst (pda_cons (pd_int) (pda_star (pd_slice (pd_var 4) (pdo_some (pd_int)) (pdo_none)) (pda_nil)))) (pda_cons (pd_var 2) (pda_nil)))) (pda_nil))))) (pds_one (pds_if (pdt_w (pdw_or (pdt_cmp op_lt opd_lt (pd_ix ix_seq opd_ix (pd_var 5) (pd_int)) (pd_int)) (pdw_or1 (pdt_w (pdw_and (pdt_cmp (op_eqF hr.r.units) opd_eq (pd_var 3) (pd_glob (v := .str "just") rfl T.c_JUST ⟨_, rfl⟩ (fun _ => .str _))) (pdw_and1 (pdt_cmp (op_neF hr.r.units) opd_ne (pd_var 5) (pd_glob (v := .ref T.a_NOUGHT) rfl T.c_NOUGHT rfl T.k_NOUGHT)))))))) (pds_one (pds_ret (pd_bl))) (pds_nil))))) (pds_one (pds_ret (pd_bl))))
    sem_p_comes_to
/-! p_grants -/
def sp_p_grants : FS := fun ds ms P => match ds with
  | [.lst xs, .lst ys] => ∃ (ws : List Wi) (ns : List (Int × Int)), xs = ws.map wiD ∧ ys = ns.map fr ∧ (∀ n ∈ ns, Low n) ∧ (∀ w ∈ ws, FitG w.l w.fs ns) ∧ P (.bl (tf (∀ w ∈ ws, Wan w (1, 1) ns))) ms
  | _ => False
theorem len_p_grants : ∀ ds ms Q, sp_p_grants ds ms Q → ds.length = 2 := fun ds ms Q h => by
  unfold sp_p_grants at h
  split at h <;> first | rfl | exact h.elim
def t_p_grants : DTS := dRet (dCall 3 0 [0, 1, 2] sp_p_comes_to (aCons (dVar 0) (aCons (dC k_ONE) (aCons (dVar 1) (aNil)))) (aNil))
theorem sem_p_grants : ∀ ds ms Q, sp_p_grants ds ms Q → t_p_grants { nx := fun _ m => Q .non m, rt := Q } (startD 2 ds) ms := by
  intro ds ms Q h
  unfold sp_p_grants at h
  split at h
  · obtain ⟨ws, ns, rfl, rfl, ln, hw, h⟩ := h
    simp only [startD]
    unfold t_p_grants
    walk_at "st"
    exact ⟨ws, ns, rfl, rfl, low_int 1, (fb_int (n := 1) (by unfold Bd; decide)).mono (by decide) (by decide), ln, hw, h⟩
  · exact h.elim
theorem ok_p_grants (T : Tx P K mg) : FnG P w K mg base 6 T.f_p_grants T.d_p_grants ["wishes", "numbers"] (spD K sp_p_grants) := by
  have G_p_comes_to := ok_p_comes_to (P := P) (w := w) (base := base) T
  exact fnG_of (k := 5) (t := t_p_grants) T.F_p_grants sc_p_grants len_p_grants
    (fun cdv A outer s H hr => pds_one (pds_ret (pd_call G_p_comes_to (hr.mono (by decide)) rfl T.g_p_comes_to T.F_p_comes_to.kp T.b_p_comes_to_3 (pda_cons (pd_var 0) (pda_cons (pd_glob (v := .ref T.a_ONE) rfl T.c_ONE rfl T.k_ONE) (pda_cons (pd_var 1) (pda_nil)))))))
    sem_p_grants
/-! p_is_letters -/
def sp_p_is_letters : FS := fun ds ms P => match ds with
  | [.str x, .int n] => n = 6 ∧ goodNm x = true ∧ P (.bl true) ms
  | _ => False
theorem len_p_is_letters : ∀ ds ms Q, sp_p_is_letters ds ms Q → ds.length = 2 := fun ds ms Q h => by
  unfold sp_p_is_letters at h
  split at h <;> first | rfl | exact h.elim
def t_p_is_letters : DTS := dSeq (dIfS (dOr (dNot (dTest (dIsi .str (dVar 0)))) (dOr (dTest (dOp fLt (dCB cLen (aCons (dVar 0) (aNil))) (dC (.int 1)))) (dTest (dOp fGt (dCB cLen (aCons (dVar 0) (aNil))) (dVar 1))))) (dRet (dC (.bl false))) (dNext)) (dRet (dCB cAll (aCons (dLc (iStrD (dVar 0)) (sName 2) (dYes) (dOp fInSign (dVar 2) (dC (.str "abcdefghijklmnopqrstuvwxyz"))) [2]) (aNil))))
theorem letters_lit : (Str.ofString "abcdefghijklmnopqrstuvwxyz").cps.toList = [97, 98, 99, 100, 101, 102, 103, 104, 105, 106, 107, 108, 109, 110, 111, 112, 113, 114, 115, 116, 117, 118, 119, 120, 121, 122] := by decide +kernel
theorem in_letters (c : Nat) : decide (c ∈ (Str.ofString "abcdefghijklmnopqrstuvwxyz").cps.toList) = (decide (97 ≤ c) && decide (c < 123)) := by
  rw [letters_lit, Bool.eq_iff_iff, decide_eq_true_iff, Bool.and_eq_true_iff, decide_eq_true_iff, decide_eq_true_iff]
  simp only [List.mem_cons, List.not_mem_nil, or_false]
  omega
theorem sem_p_is_letters : ∀ ds ms Q, sp_p_is_letters ds ms Q → t_p_is_letters { nx := fun _ m => Q .non m, rt := Q } (startD 3 ds) ms := by
  intro ds ms Q h
  unfold sp_p_is_letters at h
  split at h
  · rename_i x n
    obtain ⟨rfl, hg, h⟩ := h
    unfold goodNm at hg
    rw [Bool.and_eq_true_iff, Bool.and_eq_true_iff] at hg
    obtain ⟨⟨g1, g2⟩, g3⟩ := hg
    have g1 := of_decide_eq_true g1
    have g2 := of_decide_eq_true g2
    have sz : x.length ≤ sizeLine := Nat.le_trans g2 (by decide)
    simp only [startD]
    unfold t_p_is_letters
    walk_at "st"
    refine ⟨sz, ?_⟩
    walk_at "st"
    refine w_iteF (decide_eq_false (by omega)) ?_
    walk_at "st"
    refine ⟨sz, ?_⟩
    walk_at "st"
    refine w_iteF (decide_eq_false (by omega)) ?_
    walk_at "st"
    simp only [wipeD, List.set]
    have hl : x.cps.toList.length ≤ 6 := g2
    refine comp_e (fun c => D.str ⟨#[c]⟩) (fun c => D.bl (decide (97 ≤ c) && decide (c < 123))) x.cps.toList [] _ (by simp only [List.length_nil]; omega) (fun c hc P0 q => ?_) ?_
    · walk_at "st"
      rw [in_letters]
      exact q
    · rw [List.nil_append]
      walk_at "st"
      refine w_all (bls_map _ _) ?_
      rw [show (x.cps.toList.map fun c => decide (97 ≤ c) && decide (c < 123)).all id = x.cps.toList.all fun c => decide (97 ≤ c) && decide (c < 123) by rw [List.all_map]; rfl, g3]
      walk_at "st"
      exact h
  · exact h.elim
theorem ok_p_is_letters (T : Tx P K mg) : FnG P w K mg base 1 T.f_p_is_letters T.d_p_is_letters ["thing", "most"] (spD K sp_p_is_letters) := by
  exact fnG_of (k := 0) (t := t_p_is_letters) T.F_p_is_letters sc_p_is_letters len_p_is_letters
    (fun cdv A outer s H hr => pds_cons (pds_if (pdt_w (pdw_or (pdt_not (pdt_val (pd_isi .str (by decide) rfl T.n_isinstance rfl T.n_str (by decide +kernel) (by decide) (by decide) (pd_var 0)))) (pdw_or (pdt_cmp op_lt opd_lt (pd_callB call_len cal_len rfl T.n_len (by decide +kernel) (pda_cons (pd_var 0) (pda_nil))) (pd_int)) (pdw_or1 (pdt_cmp op_gt opd_gt (pd_callB call_len cal_len rfl T.n_len (by decide +kernel) (pda_cons (pd_var 0) (pda_nil))) (pd_var 1)))))) (pds_one (pds_ret (pd_bl))) (pds_nil)) (pds_one (pds_ret (pd_callB (cr_all rfl) cal_all rfl T.n_all (by decide +kernel) (pda_cons (pd_lc (own := [("sign", 2)]) rfl sc_p_is_letters.nd (pdi_str (pd_var 0)) (blkOk_by (own := [("sign", 2)]) (by kernel_rfl)) (fun _ _ _ _ _ => pg_name (i := 2) sc_p_is_letters.nd rfl (by first | exact .inl rfl | exact .inr rfl)) (tg_name (i := 2) (by decide)) (mon_name (i := 2)) (fun _ _ _ _ _ => pdts_nil) (fun _ _ _ _ _ => pd_cmp op_in_sign opd_inSign (pd_var 2) (pd_glob (v := .str "abcdefghijklmnopqrstuvwxyz") rfl T.c_LETTERS ⟨_, rfl⟩ (fun _ => .str _)) (by rfl))) (pda_nil))))))
    sem_p_is_letters
/-! p_is_name -/
def sp_p_is_name : FS := fun ds ms P => match ds with
  | [.str x] => goodNm x = true ∧ P (.bl true) ms
  | _ => False
theorem len_p_is_name : ∀ ds ms Q, sp_p_is_name ds ms Q → ds.length = 1 := fun ds ms Q h => by
  unfold sp_p_is_name at h
  split at h <;> first | rfl | exact h.elim
def t_p_is_name : DTS := dRet (dCall 2 0 [0, 1] sp_p_is_letters (aCons (dVar 0) (aCons (dC (.int 6)) (aNil))) (aNil))
theorem sem_p_is_name : ∀ ds ms Q, sp_p_is_name ds ms Q → t_p_is_name { nx := fun _ m => Q .non m, rt := Q } (startD 1 ds) ms := by
  intro ds ms Q h
  unfold sp_p_is_name at h
  split at h
  · simp only [startD]
    unfold t_p_is_name
    walk_at "st"
    exact ⟨rfl, h⟩
  · exact h.elim
theorem ok_p_is_name (T : Tx P K mg) : FnG P w K mg base 2 T.f_p_is_name T.d_p_is_name ["thing"] (spD K sp_p_is_name) := by
  have G_p_is_letters := ok_p_is_letters (P := P) (w := w) (base := base) T
  exact fnG_of (k := 1) (t := t_p_is_name) T.F_p_is_name sc_p_is_name len_p_is_name
    (fun cdv A outer s H hr => pds_one (pds_ret (pd_call G_p_is_letters (hr.mono (by decide)) rfl T.g_p_is_letters T.F_p_is_letters.kp T.b_p_is_letters_2 (pda_cons (pd_var 0) (pda_cons (pd_glob (v := .int (6)) rfl T.c_LONGEST_NAME ⟨_, rfl⟩ (fun _ => .int _)) (pda_nil))))))
    sem_p_is_name
/-! p_look_at_names -/
def sp_p_look_at_names : FS := fun ds ms P => match ds with
  | [.str _, .lst ys, .int n] => ∃ xs : List Str, ys = xs.map D.str ∧ 0 ≤ n ∧ n ≤ 6 ∧ NmOk n.toNat xs ∧ P .non ms
  | _ => False
theorem len_p_look_at_names : ∀ ds ms Q, sp_p_look_at_names ds ms Q → ds.length = 3 := fun ds ms Q h => by
  unfold sp_p_look_at_names at h
  split at h <;> first | rfl | exact h.elim
def t_p_look_at_names : DTS := dSeq (dIfS (dOr (dNot (dTest (dIsi .list (dVar 1)))) (dOr (dTest (dOp fLt (dCB cLen (aCons (dVar 1) (aNil))) (dC (.int 1)))) (dTest (dOp fGt (dCB cLen (aCons (dVar 1) (aNil))) (dVar 2))))) (dNever) (dNext)) (dFor (iEnumD (aCons (dVar 1) (aNil))) (sTup 2 (sCons (sName 3) (sCons (sName 4) (sNil)))) (dIfS (dOr (dNot (dTest (dCall 1 0 [0] sp_p_is_name (aCons (dVar 4) (aNil)) (aNil)))) (dTest (dOp fIn (dVar 4) (dSl (dVar 1) (oNone) (oSome (dVar 3)))))) (dNever) (dNext)))
theorem nm_notin {x : Str} {ys : List Str} {ms : MS} {P : D → MS → Prop} (hx : goodNm x = true) (hy : ∀ y ∈ ys, goodNm y = true) (hl : ys.length ≤ 100) (hn : x ∉ ys) (q : P (.bl false) ms) : InOk (.str x) (ys.map D.str) false ms P := by
  have py : ∀ ys : List Str, (∀ y ∈ ys, goodNm y = true) → toPys (ys.map D.str) = some (ys.map PyData.str) ∧ PyData.canLayAll0 (ys.map PyData.str) = true ∧ PyData.depthAll (ys.map PyData.str) = 0 := by
    intro ys
    induction ys with
    | nil => intro _; exact ⟨rfl, rfl, rfl⟩
    | cons y r ih =>
      intro h
      obtain ⟨e1, e2, e3⟩ := ih fun z hz => h z (List.mem_cons_of_mem _ hz)
      have ey : y.cps.all (· < 0x110000) = true := nm_ok (h y List.mem_cons_self)
      refine ⟨by rw [List.map_cons]; unfold toPys; rw [e1]; rfl, Bool.and_eq_true_iff.mpr ⟨ey, e2⟩, ?_⟩
      show max 0 (PyData.depthAll (r.map PyData.str)) = 0
      rw [e3]; rfl
  obtain ⟨e1, e2, e3⟩ := py ys hy
  refine ⟨.str x, ys.map PyData.str, rfl, e1, nm_ok hx, Nat.zero_le _, e2, ?_⟩
  · have e : ((ys.map PyData.str).any fun z => PyData.eqv z (.str x)) = false := by
      rw [List.any_map, List.any_eq_false]
      intro y hy z
      have z : (y == x) = true := z
      exact hn (beq_iff_eq.mp z ▸ hy)
    rw [e]
    exact q
theorem sem_p_look_at_names : ∀ ds ms Q, sp_p_look_at_names ds ms Q → t_p_look_at_names { nx := fun _ m => Q .non m, rt := Q } (startD 5 ds) ms := by
  intro ds ms Q h
  unfold sp_p_look_at_names at h
  split at h
  · rename_i part ys n
    obtain ⟨xs, rfl, n0, n6, ok, h⟩ := h
    have l1 := ok.l1
    have l2 := ok.l2
    simp only [startD]
    unfold t_p_look_at_names
    walk_at "st"
    refine w_iteF (decide_eq_false (by rw [List.length_map]; omega)) ?_
    walk_at "st"
    refine w_iteF (decide_eq_false (by rw [List.length_map]; omega)) ?_
    walk_at "st"
    refine loop_inv (fun ds m => m = ms ∧ ∃ x3 x4, ds = [some (.str part), some (.lst (xs.map D.str)), some (.int n), x3, x4]) _ _ _ ⟨rfl, _, _, rfl⟩ ?_ ?_
    · rintro d hd ds m ⟨rfl, x3, x4, rfl⟩ N hN
      obtain ⟨k, hk, rfl⟩ := enum_mem hd
      walk_at "st"
      refine ⟨ok.ok _ (List.getElem_mem hk), ?_⟩
      walk_at "st"
      rw [cut_to _ _ (by rw [List.length_map]; omega), ← List.map_take]
      refine nm_notin (ok.ok _ (List.getElem_mem hk)) (fun y hy => ok.ok y (List.mem_of_mem_take hy)) (by rw [List.length_take]; omega) (fun z => ?_) ?_
      · obtain ⟨j, hj, e⟩ := List.mem_iff_getElem.mp z
        rw [List.length_take] at hj
        rw [List.getElem_take] at e
        exact List.pairwise_iff_getElem.mp ok.nd j k (by omega) hk (by omega) e
      · walk_at "st"
        exact hN _ _ ⟨rfl, _, _, rfl⟩
    · rintro ds m ⟨rfl, _, _, rfl⟩
      exact h
  · exact h.elim
theorem ok_p_look_at_names (T : Tx P K mg) : FnG P w K mg base 3 T.f_p_look_at_names T.d_p_look_at_names ["part", "thing", "most"] (spD K sp_p_look_at_names) := by
  have G_p_is_name := ok_p_is_name (P := P) (w := w) (base := base) T
  exact fnG_of (k := 2) (t := t_p_look_at_names) T.F_p_look_at_names sc_p_look_at_names len_p_look_at_names
    (fun cdv A outer s H hr => pds_cons (pds_if (pdt_w (pdw_or (pdt_not (pdt_val (pd_isi .list (by decide) rfl T.n_isinstance rfl T.n_list (by decide +kernel) (by decide) (by decide) (pd_var 1)))) (pdw_or (pdt_cmp op_lt opd_lt (pd_callB call_len cal_len rfl T.n_len (by decide +kernel) (pda_cons (pd_var 1) (pda_nil))) (pd_int)) (pdw_or1 (pdt_cmp op_gt opd_gt (pd_callB call_len cal_len rfl T.n_len (by decide +kernel) (pda_cons (pd_var 1) (pda_nil))) (pd_var 2)))))) (pds_one (pds_never)) (pds_nil)) (pds_one (pds_for (vs := [3, 4]) rfl (pdi_enum rfl T.n_enumerate (pda_cons (pd_var 1) (pda_nil))) (pg_tup rfl (pgs_cons (pg_name (i := 3) sc_p_look_at_names.nd rfl (.inl rfl)) (pgs_cons (pg_name (i := 4) sc_p_look_at_names.nd rfl (.inl rfl)) (pgs_nil)))) (tg_tup (tgs_cons (tg_name (i := 3) (by decide)) (tgs_cons (tg_name (i := 4) (by decide)) (tgs_nil) (mon_name (i := 4))) (mon_name (i := 3)))) (pds_one (pds_if (pdt_w (pdw_or (pdt_not (pdt_val (pd_call G_p_is_name (hr.mono (by decide)) rfl T.g_p_is_name T.F_p_is_name.kp T.b_p_is_name_1 (pda_cons (pd_var 4) (pda_nil))))) (pdw_or1 (pdt_cmp (op_inF hr.r.units) opd_in (pd_var 4) (pd_slice (pd_var 1) (pdo_none) (pdo_some (pd_var 3))) (by rfl))))) (pds_one (pds_never)) (pds_nil))))))
    sem_p_look_at_names
/-! p_is_wishes -/
def sp_p_is_wishes : FS := fun ds ms P => match ds with
  | [.int i, .lst ys] => ∃ (ws : List Wi) (B n : Nat), ys = ws.map wiD ∧ i = (n : Int) ∧ n ≤ 8 ∧ ws.length ≤ 12 ∧ (∀ w ∈ ws, WiOk B n w) ∧ P (.bl true) ms
  | _ => False
theorem len_p_is_wishes : ∀ ds ms Q, sp_p_is_wishes ds ms Q → ds.length = 2 := fun ds ms Q h => by
  unfold sp_p_is_wishes at h
  split at h <;> first | rfl | exact h.elim
def t_p_is_wishes : DTS := dSeq (dIfS (dOr (dNot (dTest (dIsi .list (dVar 1)))) (dTest (dOp fGt (dCB cLen (aCons (dVar 1) (aNil))) (dC (.int 12))))) (dRet (dC (.bl false))) (dNext)) (dRet (dCB cAll (aCons (dLc (iSeq (dVar 1)) (sName 2) (dYes) (dCall 2 0 [0, 1] sp_p_is_wish (aCons (dVar 0) (aCons (dVar 2) (aNil))) (aNil)) [2]) (aNil))))
theorem sem_p_is_wishes : ∀ ds ms Q, sp_p_is_wishes ds ms Q → t_p_is_wishes { nx := fun _ m => Q .non m, rt := Q } (startD 3 ds) ms := by
  intro ds ms Q h
  unfold sp_p_is_wishes at h
  split at h
  · rename_i i ys
    obtain ⟨ws, B, n, rfl, rfl, n8, wl, wo, h⟩ := h
    simp only [startD]
    unfold t_p_is_wishes
    walk_at "st"
    refine w_iteF (decide_eq_false (by rw [List.length_map]; omega)) ?_
    walk_at "st"
    simp only [wipeD, List.set]
    refine comp_e wiD (fun _ => D.bl true) ws [] _ (by simp; omega) (fun w hw P0 q => ?_) ?_
    · walk_at "st"
      exact ⟨w, rfl, by omega, by omega, by rw [(wo w hw).ln], q⟩
    · rw [List.nil_append]
      walk_at "st"
      obtain ⟨bs, e, hb⟩ := all_true (fun _ : Wi => D.bl true) (fun _ => rfl) ws
      refine w_all e ?_
      walk_at "st"
      rw [hb]
      exact h
  · exact h.elim
theorem ok_p_is_wishes (T : Tx P K mg) : FnG P w K mg base 5 T.f_p_is_wishes T.d_p_is_wishes ["many", "thing"] (spD K sp_p_is_wishes) := by
  have G_p_is_wish := ok_p_is_wish (P := P) (w := w) (base := base) T
  exact fnG_of (k := 4) (t := t_p_is_wishes) T.F_p_is_wishes sc_p_is_wishes len_p_is_wishes
    (fun cdv A outer s H hr => pds_cons (pds_if (pdt_w (pdw_or (pdt_not (pdt_val (pd_isi .list (by decide) rfl T.n_isinstance rfl T.n_list (by decide +kernel) (by decide) (by decide) (pd_var 1)))) (pdw_or1 (pdt_cmp op_gt opd_gt (pd_callB call_len cal_len rfl T.n_len (by decide +kernel) (pda_cons (pd_var 1) (pda_nil))) (pd_glob (v := .int (12)) rfl T.c_MOST_WISHES ⟨_, rfl⟩ (fun _ => .int _)))))) (pds_one (pds_ret (pd_bl))) (pds_nil)) (pds_one (pds_ret (pd_callB (cr_all rfl) cal_all rfl T.n_all (by decide +kernel) (pda_cons (pd_lc (own := [("wish", 2)]) rfl sc_p_is_wishes.nd (pdi_list (pd_var 1)) (blkOk_by (own := [("wish", 2)]) (by kernel_rfl)) (fun _ _ _ _ _ => pg_name (i := 2) sc_p_is_wishes.nd rfl (by first | exact .inl rfl | exact .inr rfl)) (tg_name (i := 2) (by decide)) (mon_name (i := 2)) (fun _ _ _ _ _ => pdts_nil) (fun _ _ _ _ _ => pd_call G_p_is_wish (hr.mono (by decide)) rfl T.g_p_is_wish T.F_p_is_wish.kp T.b_p_is_wish_2 (pda_cons (pd_var 0) (pda_cons (pd_var 2) (pda_nil))))) (pda_nil))))))
    sem_p_is_wishes
/-! p_is_row -/
def sp_p_is_row : FS := fun ds ms P => match ds with
  | [.int a, .int b, d] => ∃ (r : Rw) (B sz pl : Nat), d = rwD r ∧ a = (sz : Int) ∧ b = (pl : Int) ∧ sz ≤ 3 ∧ RwOk B sz pl r ∧ P (.bl true) ms
  | _ => False
theorem len_p_is_row : ∀ ds ms Q, sp_p_is_row ds ms Q → ds.length = 3 := fun ds ms Q h => by
  unfold sp_p_is_row at h
  split at h <;> first | rfl | exact h.elim
def t_p_is_row : DTS := dSeq (dIfS (dOr (dNot (dTest (dIsi .tuple (dVar 2)))) (dTest (dOp fNe (dCB cLen (aCons (dVar 2) (aNil))) (dC (.int 3))))) (dRet (dC (.bl false))) (dNext)) (dSeq (dAsg (dVar 2) (sTup 3 (sCons (sName 3) (sCons (sName 4) (sCons (sName 5) (sNil)))))) (dSeq (dIfS (dOr (dNot (dTest (dCall 2 0 [0, 1] sp_p_is_one_of (aCons (dVar 1) (aCons (dVar 3) (aNil))) (aNil)))) (dNot (dTest (dCall 2 0 [0, 1] sp_p_is_one_of (aCons (dVar 1) (aCons (dVar 4) (aNil))) (aNil))))) (dRet (dC (.bl false))) (dNext)) (dRet (dCall 2 0 [0, 1] sp_p_is_wishes (aCons (dOp fMul (dC (.int 2)) (dVar 0)) (aCons (dVar 5) (aNil))) (aNil)))))
theorem sem_p_is_row : ∀ ds ms Q, sp_p_is_row ds ms Q → t_p_is_row { nx := fun _ m => Q .non m, rt := Q } (startD 6 ds) ms := by
  intro ds ms Q h
  unfold sp_p_is_row at h
  split at h
  · rename_i a b d
    obtain ⟨r, B, sz, pl, rfl, rfl, rfl, s3, ok, h⟩ := h
    simp only [startD]
    unfold t_p_is_row
    walk_at "st"
    unfold rwD
    walk_at "st"
    refine ⟨⟨_, rfl⟩, ?_⟩
    have hs : isAt (pl : Int) (.int r.s) = true := by
      show (decide (0 ≤ r.s) && decide (r.s < (pl : Int))) = true
      rw [decide_eq_true ok.s0, decide_eq_true ok.s1]; rfl
    have ht : isAt (pl : Int) (.int r.t) = true := by
      show (decide (0 ≤ r.t) && decide (r.t < (pl : Int))) = true
      rw [decide_eq_true ok.t0, decide_eq_true ok.t1]; rfl
    rw [hs]
    walk_at "st"
    refine ⟨⟨_, rfl⟩, ?_⟩
    rw [ht]
    walk_at "st"
    refine ⟨.inr (.inl ⟨by decide, by decide⟩), ?_⟩
    walk_at "st"
    refine ⟨r.ws, B, 2 * sz, rfl, by omega, by omega, ok.wl, ok.wo, ?_⟩
    exact h
  · exact h.elim
theorem ok_p_is_row (T : Tx P K mg) : FnG P w K mg base 6 T.f_p_is_row T.d_p_is_row ["names", "places", "thing"] (spD K sp_p_is_row) := by
  have G_p_is_wishes := ok_p_is_wishes (P := P) (w := w) (base := base) T
  have G_p_is_one_of := ok_p_is_one_of (P := P) (w := w) (base := base) T
  exact fnG_of (k := 5) (t := t_p_is_row) T.F_p_is_row sc_p_is_row len_p_is_row
    (fun cdv A outer s H hr => pds_cons (pds_if (pdt_w (pdw_or (pdt_not (pdt_val (pd_isi .tuple (by decide) rfl T.n_isinstance rfl T.n_tuple (by decide +kernel) (by decide) (by decide) (pd_var 2)))) (pdw_or1 (pdt_cmp (op_neF hr.r.units) opd_ne (pd_callB call_len cal_len rfl T.n_len (by decide +kernel) (pda_cons (pd_var 2) (pda_nil))) (pd_int))))) (pds_one (pds_ret (pd_bl))) (pds_nil)) (pds_cons (pds_asg (vs := [3, 4, 5]) (pd_var 2) (pg_tup rfl (pgs_cons (pg_name (i := 3) sc_p_is_row.nd rfl (.inl rfl)) (pgs_cons (pg_name (i := 4) sc_p_is_row.nd rfl (.inl rfl)) (pgs_cons (pg_name (i := 5) sc_p_is_row.nd rfl (.inl rfl)) (pgs_nil))))) (tg_tup (tgs_cons (tg_name (i := 3) (by decide)) (tgs_cons (tg_name (i := 4) (by decide)) (tgs_cons (tg_name (i := 5) (by decide)) (tgs_nil) (mon_name (i := 5))) (mon_name (i := 4))) (mon_name (i := 3))))) (pds_cons (pds_if (pdt_w (pdw_or (pdt_not (pdt_val (pd_call G_p_is_one_of (hr.mono (by decide)) rfl T.g_p_is_one_of T.F_p_is_one_of.kp T.b_p_is_one_of_2 (pda_cons (pd_var 1) (pda_cons (pd_var 3) (pda_nil)))))) (pdw_or1 (pdt_not (pdt_val (pd_call G_p_is_one_of (hr.mono (by decide)) rfl T.g_p_is_one_of T.F_p_is_one_of.kp T.b_p_is_one_of_2 (pda_cons (pd_var 1) (pda_cons (pd_var 4) (pda_nil))))))))) (pds_one (pds_ret (pd_bl))) (pds_nil)) (pds_one (pds_ret (pd_call G_p_is_wishes (hr.mono (by decide)) rfl T.g_p_is_wishes T.F_p_is_wishes.kp T.b_p_is_wishes_2 (pda_cons (pd_op op_mulA opd_mul (pd_int) (pd_var 0)) (pda_cons (pd_var 5) (pda_nil)))))))))
    sem_p_is_row
/-! p_look_at_rows -/
def sp_p_look_at_rows : FS := fun ds ms P => match ds with
  | [.int a, .int b, .lst ys] => ∃ (rs : List Rw) (B sz pl : Nat), ys = rs.map rwD ∧ a = (sz : Int) ∧ b = (pl : Int) ∧ sz ≤ 3 ∧ rs.length ≤ 10 ∧ (∀ r ∈ rs, RwOk B sz pl r) ∧ P .non ms
  | _ => False
theorem len_p_look_at_rows : ∀ ds ms Q, sp_p_look_at_rows ds ms Q → ds.length = 3 := fun ds ms Q h => by
  unfold sp_p_look_at_rows at h
  split at h <;> first | rfl | exact h.elim
def t_p_look_at_rows : DTS := dSeq (dIfS (dOr (dNot (dTest (dIsi .list (dVar 2)))) (dTest (dOp fGt (dCB cLen (aCons (dVar 2) (aNil))) (dC (.int 10))))) (dNever) (dNext)) (dFor (iEnumD (aCons (dVar 2) (aNil))) (sTup 2 (sCons (sName 3) (sCons (sName 4) (sNil)))) (dIfS (dNot (dTest (dCall 3 0 [0, 1, 2] sp_p_is_row (aCons (dVar 0) (aCons (dVar 1) (aCons (dVar 4) (aNil)))) (aNil)))) (dNever) (dNext)))
theorem sem_p_look_at_rows : ∀ ds ms Q, sp_p_look_at_rows ds ms Q → t_p_look_at_rows { nx := fun _ m => Q .non m, rt := Q } (startD 5 ds) ms := by
  intro ds ms Q h
  unfold sp_p_look_at_rows at h
  split at h
  · rename_i a b ys
    obtain ⟨rs, B, sz, pl, rfl, rfl, rfl, s3, rl, ro, h⟩ := h
    simp only [startD]
    unfold t_p_look_at_rows
    walk_at "st"
    refine w_iteF (decide_eq_false (by rw [List.length_map]; omega)) ?_
    walk_at "st"
    refine loop_inv (fun ds m => m = ms ∧ ∃ x3 x4, ds = [some (.int (sz : Int)), some (.int (pl : Int)), some (.lst (rs.map rwD)), x3, x4]) _ _ _ ⟨rfl, _, _, rfl⟩ ?_ ?_
    · rintro d hd ds m ⟨rfl, x3, x4, rfl⟩ N hN
      obtain ⟨k, hk, rfl⟩ := enum_mem hd
      walk_at "st"
      refine ⟨_, B, sz, pl, rfl, rfl, rfl, s3, ro _ (List.getElem_mem hk), ?_⟩
      walk_at "st"
      exact hN _ _ ⟨rfl, _, _, rfl⟩
    · rintro ds m ⟨rfl, _, _, rfl⟩
      exact h
  · exact h.elim
theorem ok_p_look_at_rows (T : Tx P K mg) : FnG P w K mg base 7 T.f_p_look_at_rows T.d_p_look_at_rows ["names", "places", "thing"] (spD K sp_p_look_at_rows) := by
  have G_p_is_row := ok_p_is_row (P := P) (w := w) (base := base) T
  exact fnG_of (k := 6) (t := t_p_look_at_rows) T.F_p_look_at_rows sc_p_look_at_rows len_p_look_at_rows
    (fun cdv A outer s H hr => pds_cons (pds_if (pdt_w (pdw_or (pdt_not (pdt_val (pd_isi .list (by decide) rfl T.n_isinstance rfl T.n_list (by decide +kernel) (by decide) (by decide) (pd_var 2)))) (pdw_or1 (pdt_cmp op_gt opd_gt (pd_callB call_len cal_len rfl T.n_len (by decide +kernel) (pda_cons (pd_var 2) (pda_nil))) (pd_glob (v := .int (10)) rfl T.c_MOST_ROWS ⟨_, rfl⟩ (fun _ => .int _)))))) (pds_one (pds_never)) (pds_nil)) (pds_one (pds_for (vs := [3, 4]) rfl (pdi_enum rfl T.n_enumerate (pda_cons (pd_var 2) (pda_nil))) (pg_tup rfl (pgs_cons (pg_name (i := 3) sc_p_look_at_rows.nd rfl (.inl rfl)) (pgs_cons (pg_name (i := 4) sc_p_look_at_rows.nd rfl (.inl rfl)) (pgs_nil)))) (tg_tup (tgs_cons (tg_name (i := 3) (by decide)) (tgs_cons (tg_name (i := 4) (by decide)) (tgs_nil) (mon_name (i := 4))) (mon_name (i := 3)))) (pds_one (pds_if (pdt_not (pdt_val (pd_call G_p_is_row (hr.mono (by decide)) rfl T.g_p_is_row T.F_p_is_row.kp T.b_p_is_row_3 (pda_cons (pd_var 0) (pda_cons (pd_var 1) (pda_cons (pd_var 4) (pda_nil))))))) (pds_one (pds_never)) (pds_nil))))))
    sem_p_look_at_rows
/-! p_look_at -/
def sp_p_look_at : FS := fun ds ms P => match ds with
  | [d] => ∃ (g : Pg) (B : Nat), d = pgD g ∧ PgOk B g ∧ P .non ms
  | _ => False
theorem len_p_look_at : ∀ ds ms Q, sp_p_look_at ds ms Q → ds.length = 1 := fun ds ms Q h => by
  unfold sp_p_look_at at h
  split at h <;> first | rfl | exact h.elim
def t_p_look_at : DTS := dSeq (dIfS (dOr (dNot (dTest (dIsi .tuple (dVar 0)))) (dTest (dOp fNe (dCB cLen (aCons (dVar 0) (aNil))) (dC (.int 3))))) (dNever) (dNext)) (dSeq (dAsg (dVar 0) (sTup 3 (sCons (sName 1) (sCons (sName 2) (sCons (sName 3) (sNil)))))) (dSeq (dDrop (dCall 3 0 [0, 1, 2] sp_p_look_at_names (aCons (dC (.str "names")) (aCons (dVar 1) (aCons (dC (.int 3)) (aNil)))) (aNil))) (dSeq (dDrop (dCall 3 0 [0, 1, 2] sp_p_look_at_names (aCons (dC (.str "places")) (aCons (dVar 2) (aCons (dC (.int 6)) (aNil)))) (aNil))) (dDrop (dCall 3 0 [0, 1, 2] sp_p_look_at_rows (aCons (dCB cLen (aCons (dVar 1) (aNil))) (aCons (dCB cLen (aCons (dVar 2) (aNil))) (aCons (dVar 3) (aNil)))) (aNil))))))
theorem sem_p_look_at : ∀ ds ms Q, sp_p_look_at ds ms Q → t_p_look_at { nx := fun _ m => Q .non m, rt := Q } (startD 4 ds) ms := by
  intro ds ms Q h
  unfold sp_p_look_at at h
  split at h
  · rename_i d
    obtain ⟨g, B, rfl, ok, h⟩ := h
    simp only [startD]
    unfold t_p_look_at
    walk_at "st"
    unfold pgD
    walk_at "st"
    refine ⟨g.nm, rfl, by decide, by decide, ok.nm, ?_⟩
    walk_at "st"
    refine ⟨g.pm, rfl, by decide, by decide, ok.pm, ?_⟩
    walk_at "st"
    rw [List.length_map, List.length_map]
    exact ⟨g.rs, B, g.nm.length, g.pm.length, rfl, rfl, rfl, ok.nm.l2, ok.rl, ok.ro, h⟩
  · exact h.elim
theorem ok_p_look_at (T : Tx P K mg) : FnG P w K mg base 8 T.f_p_look_at T.d_p_look_at ["thing"] (spD K sp_p_look_at) := by
  have G_p_look_at_names := ok_p_look_at_names (P := P) (w := w) (base := base) T
  have G_p_look_at_rows := ok_p_look_at_rows (P := P) (w := w) (base := base) T
  exact fnG_of (k := 7) (t := t_p_look_at) T.F_p_look_at sc_p_look_at len_p_look_at
    (fun cdv A outer s H hr => pds_cons (pds_if (pdt_w (pdw_or (pdt_not (pdt_val (pd_isi .tuple (by decide) rfl T.n_isinstance rfl T.n_tuple (by decide +kernel) (by decide) (by decide) (pd_var 0)))) (pdw_or1 (pdt_cmp (op_neF hr.r.units) opd_ne (pd_callB call_len cal_len rfl T.n_len (by decide +kernel) (pda_cons (pd_var 0) (pda_nil))) (pd_int))))) (pds_one (pds_never)) (pds_nil)) (pds_cons (pds_asg (vs := [1, 2, 3]) (pd_var 0) (pg_tup rfl (pgs_cons (pg_name (i := 1) sc_p_look_at.nd rfl (.inl rfl)) (pgs_cons (pg_name (i := 2) sc_p_look_at.nd rfl (.inl rfl)) (pgs_cons (pg_name (i := 3) sc_p_look_at.nd rfl (.inl rfl)) (pgs_nil))))) (tg_tup (tgs_cons (tg_name (i := 1) (by decide)) (tgs_cons (tg_name (i := 2) (by decide)) (tgs_cons (tg_name (i := 3) (by decide)) (tgs_nil) (mon_name (i := 3))) (mon_name (i := 2))) (mon_name (i := 1))))) (pds_cons (pds_expr (pd_call G_p_look_at_names (hr.mono (by decide)) rfl T.g_p_look_at_names T.F_p_look_at_names.kp T.b_p_look_at_names_3 (pda_cons (pd_str) (pda_cons (pd_var 1) (pda_cons (pd_glob (v := .int (3)) rfl T.c_MOST_NAMES ⟨_, rfl⟩ (fun _ => .int _)) (pda_nil)))))) (pds_cons (pds_expr (pd_call G_p_look_at_names (hr.mono (by decide)) rfl T.g_p_look_at_names T.F_p_look_at_names.kp T.b_p_look_at_names_3 (pda_cons (pd_str) (pda_cons (pd_var 2) (pda_cons (pd_glob (v := .int (6)) rfl T.c_MOST_PLACES ⟨_, rfl⟩ (fun _ => .int _)) (pda_nil)))))) (pds_one (pds_expr (pd_call G_p_look_at_rows (hr.mono (by decide)) rfl T.g_p_look_at_rows T.F_p_look_at_rows.kp T.b_p_look_at_rows_3 (pda_cons (pd_callB call_len cal_len rfl T.n_len (by decide +kernel) (pda_cons (pd_var 1) (pda_nil))) (pda_cons (pd_callB call_len cal_len rfl T.n_len (by decide +kernel) (pda_cons (pd_var 2) (pda_nil))) (pda_cons (pd_var 3) (pda_nil)))))))))))
    sem_p_look_at
/-! p_is_closed -/
/-! rounds -/
theorem eqv_frs : ∀ (ts us : List (Int × Int)), ∃ ps qs, toPys (ts.map fr) = some ps ∧ toPys (us.map fr) = some qs ∧ PyData.eqv (.list ps) (.list qs) = decide (ts = us)
  | [], [] => ⟨[], [], rfl, rfl, rfl⟩
  | [], (a, b) :: us => by
    obtain ⟨ps, qs, e1, e2, _⟩ := eqv_frs [] us
    exact ⟨[], _ :: qs, rfl, by rw [List.map_cons]; unfold toPys; rw [e2]; rfl, rfl⟩
  | (a, b) :: ts, [] => by
    obtain ⟨ps, qs, e1, e2, _⟩ := eqv_frs ts []
    exact ⟨_ :: ps, [], by rw [List.map_cons]; unfold toPys; rw [e1]; rfl, rfl, rfl⟩
  | (a, b) :: ts, (c, d) :: us => by
    obtain ⟨ps, qs, e1, e2, e3⟩ := eqv_frs ts us
    refine ⟨.tuple [.int a, .int b] :: ps, .tuple [.int c, .int d] :: qs, by rw [List.map_cons]; unfold toPys; rw [e1]; rfl, by rw [List.map_cons]; unfold toPys; rw [e2]; rfl, ?_⟩
    have e4 : PyData.eqv (.list (.tuple [.int a, .int b] :: ps)) (.list (.tuple [.int c, .int d] :: qs)) = (((a == c) && ((b == d) && true)) && PyData.eqv (.list ps) (.list qs)) := rfl
    rw [e4, e3]
    by_cases h : (a, b) = (c, d)
    · cases h
      simp
    · have : ¬ (a = c ∧ b = d) := fun z => h (by rw [z.1, z.2])
      simp only [List.cons.injEq, Prod.mk.injEq]
      by_cases h1 : a = c
      · have h2 : ¬ b = d := fun z => this ⟨h1, z⟩
        simp [h1, h2]
      · simp [h1]
theorem eq_frs (ts us : List (Int × Int)) : eqD (.lst (ts.map fr)) (.lst (us.map fr)) = decide (ts = us) := by
  obtain ⟨ps, qs, e1, e2, e3⟩ := eqv_frs ts us
  rw [← e3]
  unfold eqD toPy
  rw [e1, e2]
  rfl
theorem sh_frs (ts : List (Int × Int)) : ShD (.lst (ts.map fr)) := by
  have go : ∀ ts : List (Int × Int), ∃ ps, toPys (ts.map fr) = some ps ∧ PyData.canLayAll0 ps = true ∧ PyData.depthAll ps ≤ 1 := by
    intro ts
    induction ts with
    | nil => exact ⟨[], rfl, rfl, Nat.zero_le _⟩
    | cons t r ih =>
      obtain ⟨ps, e, h1, h2⟩ := ih
      refine ⟨.tuple [.int t.1, .int t.2] :: ps, by rw [List.map_cons]; unfold toPys; rw [e]; rfl, by show (_ && PyData.canLayAll0 ps) = true; rw [h1]; rfl, ?_⟩
      exact Nat.max_le.mpr ⟨Nat.le_refl 1, h2⟩
  obtain ⟨ps, e, h1, h2⟩ := go ts
  refine ⟨.list ps, by unfold toPy; rw [e]; rfl, ?_⟩
  unfold SeqAt.shaped
  rw [show (PyData.list ps).canLay0 = PyData.canLayAll0 ps from rfl, h1, decide_eq_true (show (PyData.list ps).depth ≤ 64 from (show PyData.depthAll ps + 1 ≤ 64 by omega))]
  rfl
theorem w_eq_frs {ts us : List (Int × Int)} {ms : MS} {P : D → MS → Prop} (h : P (.bl (decide (ts = us))) ms) : fEq (.lst (ts.map fr)) (.lst (us.map fr)) ms P := by
  cases us with
  | nil =>
    have e : (ts.map fr).isEmpty = decide (ts = []) := by cases ts <;> rfl
    show P (.bl (ts.map fr).isEmpty) ms
    rw [e]; exact h
  | cons u us => exact w_eq_lc ⟨sh_frs ts, sh_frs (u :: us), by rw [show D.lst (fr u :: us.map fr) = .lst ((u :: us).map fr) from rfl, eq_frs]; exact h⟩
theorem w_ne_frs {ts us : List (Int × Int)} {ms : MS} {P : D → MS → Prop} (h : P (.bl (!decide (ts = us))) ms) : fNe (.lst (ts.map fr)) (.lst (us.map fr)) ms P := by
  cases us with
  | nil =>
    have e : (ts.map fr).isEmpty = decide (ts = []) := by cases ts <;> rfl
    show P (.bl (!(ts.map fr).isEmpty)) ms
    rw [e]; exact h
  | cons u us => exact w_ne_lc ⟨sh_frs ts, sh_frs (u :: us), by rw [show D.lst (fr u :: us.map fr) = .lst ((u :: us).map fr) from rfl, eq_frs]; exact h⟩
theorem enum_range {α : Type} (f : α → D) (d : α) (xs : List α) : enumD (xs.map f) = (List.range xs.length).map fun (k : Nat) => D.tup [.int (k : Int), f (xs.getD k d)] := by
  refine List.ext_getElem? fun i => ?_
  unfold enumD rng
  rw [List.length_map, List.getElem?_zipWith, List.getElem?_map, List.getElem?_map, List.getElem?_map]
  by_cases hi : i < xs.length
  · rw [List.getElem?_range hi, List.getElem?_eq_getElem hi]
    simp [List.getD_eq_getElem?_getD, List.getElem?_eq_getElem hi]
  · rw [List.getElem?_eq_none (by rw [List.length_range]; omega), List.getElem?_eq_none (by omega)]
    rfl
theorem range_split {n k : Nat} {pre rest : List Nat} (h : pre ++ k :: rest = List.range n) : pre = List.range k ∧ k < n := by
  have hl : pre.length + (rest.length + 1) = n := by
    have := congrArg List.length h
    rwa [List.length_append, List.length_cons, List.length_range] at this
  have hk : (List.range n)[pre.length]? = some k := by
    rw [← h, List.getElem?_append_right (Nat.le_refl _), Nat.sub_self]; rfl
  rw [List.getElem?_range (by omega)] at hk
  have hk : pre.length = k := Option.some.inj hk
  refine ⟨?_, by omega⟩
  have ht := congrArg (List.take pre.length) h
  rw [List.take_left, List.take_range, Nat.min_eq_left (by omega), hk] at ht
  exact ht
theorem val_sub {p q : Int × Int} (hp : p.2 ≠ 0) (hq : q.2 ≠ 0) : val (subF p q) = val p - val q := by
  rw [← sub_is, val_add (q := (0 - q.1, q.2)) hp hq]
  unfold val
  show (p.1 : Rat) / (p.2 : Rat) + ((0 - q.1 : Int) : Rat) / (q.2 : Rat) = _
  rw [Rat.intCast_sub, Rat.intCast_zero]
  generalize (q.1 : Rat) = x
  generalize (q.2 : Rat) = y
  grind
def rowAt (g : Pg) (k : Nat) : Rw := g.rs.getD k ⟨0, 0, []⟩
theorem rowAt_at {g : Pg} {k : Nat} (h : k < g.rs.length) : g.rs[k]? = some (rowAt g k) := by unfold rowAt; rw [List.getD_eq_getElem?_getD, List.getElem?_eq_getElem h]; rfl
theorem rowAt_ix {g : Pg} {k : Nat} (h : k < g.rs.length) : atI (g.rs.map rwD) (k : Int) = some (rwD (rowAt g k)) := atI_nat (by rw [List.getElem?_map, rowAt_at h]; rfl)
theorem getD_mem {α : Type} {xs : List α} {i : Nat} (d : α) (h : i < xs.length) : xs[i]? = some (xs.getD i d) ∧ xs.getD i d ∈ xs := by
  have e : xs[i]? = some (xs.getD i d) := by rw [List.getD_eq_getElem?_getD, List.getElem?_eq_getElem h]; rfl
  exact ⟨e, mem_at e⟩
/-- each row leads to where the next one starts -/
def Clo (g : Pg) (rows : List Nat) : Prop := ∀ i, i < rows.length → (rowAt g (rows.getD i 0)).t = (rowAt g (rows.getD ((i + 1) % rows.length) 0)).s
theorem clo_iff {g : Pg} {k : Nat} {ks : List Nat} : (((k :: ks).zip (ks ++ [k])).all fun p => (rowAt g p.1).t == (rowAt g p.2).s) = true ↔ Clo g (k :: ks) := by
  have at_ : ∀ i, i < (k :: ks).length → ((k :: ks).zip (ks ++ [k]))[i]? = some ((k :: ks).getD i 0, (k :: ks).getD ((i + 1) % (k :: ks).length) 0) := by
    intro i hi
    rw [List.length_cons] at hi ⊢
    have e1 := (getD_mem 0 (xs := k :: ks) (i := i) (by rw [List.length_cons]; exact hi)).1
    have e2 : (ks ++ [k])[i]? = some ((k :: ks).getD ((i + 1) % (ks.length + 1)) 0) := by
      by_cases h : i < ks.length
      · rw [List.getElem?_append_left h, Nat.mod_eq_of_lt (by omega)]
        show ks[i]? = some (ks.getD i 0)
        exact (getD_mem 0 h).1
      · have : i = ks.length := by omega
        subst this
        rw [List.getElem?_append_right (Nat.le_refl _), Nat.sub_self, Nat.mod_self]; rfl
    exact List.getElem?_zip_eq_some.mpr ⟨e1, e2⟩
  rw [List.all_eq_true]
  constructor
  · intro h i hi
    exact beq_iff_eq.mp (h _ (mem_at (at_ i hi)))
  · intro h p hp
    obtain ⟨i, hi, e⟩ := List.mem_iff_getElem.mp hp
    have hi2 : i < (k :: ks).length := by rw [List.length_zip] at hi; omega
    have e2 := at_ i hi2
    rw [List.getElem?_eq_getElem hi, e] at e2
    rw [Option.some.inj e2]
    exact beq_iff_eq.mpr (h i hi2)
def sp_p_is_closed : FS := fun ds ms P => match ds with
  | [d, .lst ys] => ∃ (g : Pg) (rows : List Nat), d = pgD g ∧ ys = natL rows ∧ 1 ≤ rows.length ∧ rows.length ≤ 100 ∧ (∀ k ∈ rows, k < g.rs.length) ∧ P (.bl (tf (Clo g rows))) ms
  | _ => False
theorem len_p_is_closed : ∀ ds ms Q, sp_p_is_closed ds ms Q → ds.length = 2 := fun ds ms Q h => by
  unfold sp_p_is_closed at h
  split at h <;> first | rfl | exact h.elim
def t_p_is_closed : DTS := dSeq (dAsg (dLc (iSeq (dVar 1)) (sName 3) (dYes) (dOp fIx (dOp fIx (dVar 0) (dC (.int 2))) (dVar 3)) [3]) (sName 2)) (dRet (dCB cAll (aCons (dLc (iZipD (aCons (dVar 2) (aCons (dOp fAdd (dSl (dVar 2) (oSome (dC (.int 1))) (oNone)) (dSl (dVar 2) (oNone) (oSome (dC (.int 1))))) (aNil)))) (sTup 2 (sCons (sName 4) (sCons (sName 5) (sNil)))) (dYes) (dOp fEq (dOp fIx (dVar 4) (dC (.int 1))) (dOp fIx (dVar 5) (dC (.int 0)))) [4, 5]) (aNil))))
theorem sem_p_is_closed : ∀ ds ms Q, sp_p_is_closed ds ms Q → t_p_is_closed { nx := fun _ m => Q .non m, rt := Q } (startD 6 ds) ms := by
  intro ds ms Q h
  unfold sp_p_is_closed at h
  split at h
  · obtain ⟨g, rows, rfl, rfl, l1, l2, hk, h⟩ := h
    cases rows with
    | nil => cases l1
    | cons k ks =>
    rw [List.length_cons] at l2
    simp only [startD]
    unfold t_p_is_closed pgD
    walk_at "st"
    refine comp_e (fun (k : Nat) => D.int (k : Int)) (fun k => rwD (rowAt g k)) (k :: ks) [] _ (by rw [List.length_cons, List.length_nil]; omega) (fun j hj P0 q => ?_) ?_
    · walk_at "st"
      exact w_ix_l (rowAt_ix (hk j hj)) q
    rw [List.nil_append, List.map_cons]
    walk_at "st"
    rw [cut_1, show cutL (rwD (rowAt g k) :: ks.map fun k => rwD (rowAt g k)) none (some 1) = [rwD (rowAt g k)] from cut_to _ 1 (by simp)]
    refine ⟨size_ok (by rw [List.length_map, List.length_singleton]; omega), ?_⟩
    walk_at "st"
    rw [show (ks.map fun k => rwD (rowAt g k)) ++ [rwD (rowAt g k)] = (ks ++ [k]).map fun k => rwD (rowAt g k) by rw [List.map_append]; rfl,
      show rwD (rowAt g k) :: (ks.map fun k => rwD (rowAt g k)) = (k :: ks).map fun k => rwD (rowAt g k) from rfl, zipD_mp]
    simp only [wipeD, List.set]
    refine comp_e (fun p : Nat × Nat => D.tup [rwD (rowAt g p.1), rwD (rowAt g p.2)]) (fun p => D.bl ((rowAt g p.1).t == (rowAt g p.2).s)) _ [] _ (by rw [List.length_zip, List.length_cons, List.length_nil]; omega) (fun p hp P0 q => ?_) ?_
    · unfold rwD
      walk_at "st"
      exact q
    rw [List.nil_append]
    walk_at "st"
    refine w_all (bls_map _ _) ?_
    rw [all_id]
    exact tf_e h clo_iff
  · exact h.elim
theorem ok_p_is_closed (T : Tx P K mg) : FnG P w K mg base 1 T.f_p_is_closed T.d_p_is_closed ["program", "rows"] (spD K sp_p_is_closed) := by
  exact fnG_of (k := 0) (t := t_p_is_closed) T.F_p_is_closed sc_p_is_closed len_p_is_closed
    (fun cdv A outer s H hr => pds_cons (pds_setLc (i := 2) (own := [("row", 3)]) rfl sc_p_is_closed.nd rfl rfl (sw_true rfl rfl rfl (by decide +kernel)) (pdi_list (pd_var 1)) (blkOk_by (own := [("row", 3)]) (by kernel_rfl)) (fun _ _ _ _ _ => pg_name (i := 3) sc_p_is_closed.nd rfl (by first | exact .inl rfl | exact .inr rfl)) (tg_name (i := 3) (by decide)) (mon_name (i := 3)) (fun _ _ _ _ _ => pdts_nil) (fun _ _ _ _ _ => pd_ix ix_seq opd_ix (pd_ix ix_seq opd_ix (pd_var 0) (pd_int)) (pd_var 3))) (pds_one (pds_ret (pd_callB (cr_all rfl) cal_all rfl T.n_all (by decide +kernel) (pda_cons (pd_lc (own := [("one", 4), ("other", 5)]) rfl sc_p_is_closed.nd (pdi_zip rfl T.n_zip (pda_cons (pd_var 2) (pda_cons (pd_op op_addD opd_add (pd_slice (pd_var 2) (pdo_some (pd_int)) (pdo_none)) (pd_slice (pd_var 2) (pdo_none) (pdo_some (pd_int)))) (pda_nil)))) (blkOk_by (own := [("one", 4), ("other", 5)]) (by kernel_rfl)) (fun _ _ _ _ _ => pg_tup rfl (pgs_cons (pg_name (i := 4) sc_p_is_closed.nd rfl (by first | exact .inl rfl | exact .inr rfl)) (pgs_cons (pg_name (i := 5) sc_p_is_closed.nd rfl (by first | exact .inl rfl | exact .inr rfl)) (pgs_nil)))) (tg_tup (tgs_cons (tg_name (i := 4) (by decide)) (tgs_cons (tg_name (i := 5) (by decide)) (tgs_nil) (mon_name (i := 5))) (mon_name (i := 4)))) (mon_tup (mon_cons (mon_name (i := 4)) (mon_cons (mon_name (i := 5)) (mon_nil)))) (fun _ _ _ _ _ => pdts_nil) (fun _ _ _ _ _ => pd_cmp (op_eqF hr.r.units) opd_eq (pd_ix ix_seq opd_ix (pd_var 4) (pd_int)) (pd_ix ix_seq opd_ix (pd_var 5) (pd_int)))) (pda_nil))))))
    sem_p_is_closed
/-! p_is_ring -/
def IsRing (g : Pg) (d : D) : Prop := ∃ rows : List Nat, d = .lst (natL rows) ∧ 1 ≤ rows.length ∧ rows.length ≤ 12 ∧ (∀ k ∈ rows, k < g.rs.length) ∧ Clo g rows
def sp_p_is_ring : FS := fun ds ms P => match ds with
  | [d, x] => ∃ (g : Pg) (N : Nat), d = pgD g ∧ AnyX N x ∧ P (.bl (tf (IsRing g x))) ms
  | _ => False
theorem len_p_is_ring : ∀ ds ms Q, sp_p_is_ring ds ms Q → ds.length = 2 := fun ds ms Q h => by
  unfold sp_p_is_ring at h
  split at h <;> first | rfl | exact h.elim
def t_p_is_ring : DTS := dSeq (dIfS (dOr (dNot (dTest (dIsi .list (dVar 1)))) (dOr (dTest (dOp fLt (dCB cLen (aCons (dVar 1) (aNil))) (dC (.int 1)))) (dTest (dOp fGt (dCB cLen (aCons (dVar 1) (aNil))) (dC (.int 12)))))) (dRet (dC (.bl false))) (dNext)) (dRet (dAndV (dCB cAll (aCons (dLc (iSeq (dVar 1)) (sName 2) (dYes) (dCall 2 0 [0, 1] sp_p_is_one_of (aCons (dCB cLen (aCons (dOp fIx (dVar 0) (dC (.int 2))) (aNil))) (aCons (dVar 2) (aNil))) (aNil)) [2]) (aNil))) (dCall 2 0 [0, 1] sp_p_is_closed (aCons (dVar 0) (aCons (dVar 1) (aNil))) (aNil))))
theorem isAts_iff {n : Int} : ∀ {xs : List D}, xs.all (isAt n) = true ↔ ∃ is : List Nat, xs = natL is ∧ ∀ k ∈ is, (k : Int) < n
  | [] => ⟨fun _ => ⟨[], rfl, fun _ h => by cases h⟩, fun _ => rfl⟩
  | x :: r => by
    rw [List.all_cons, Bool.and_eq_true_iff, isAts_iff (xs := r)]
    refine ⟨fun ⟨h, is, e, l⟩ => ?_, fun ⟨is, e, l⟩ => ?_⟩
    · cases x with
      | int i =>
        have h : (decide (0 ≤ i) && decide (i < n)) = true := h
        obtain ⟨h1, h2⟩ := Bool.and_eq_true_iff.mp h
        have h1 := of_decide_eq_true h1
        have h2 := of_decide_eq_true h2
        refine ⟨i.toNat :: is, ?_, fun k hk => ?_⟩
        · show D.int i :: r = D.int (i.toNat : Int) :: natL is
          rw [e, Int.toNat_of_nonneg h1]
        · rcases List.mem_cons.mp hk with rfl | hk
          · omega
          · exact l k hk
      | _ => cases h
    · cases is with
      | nil => cases e
      | cons k is =>
        have e : x :: r = D.int (k : Int) :: natL is := e
        injection e with e1 e2
        subst e1
        refine ⟨?_, is, e2, fun j hj => l j (List.mem_cons_of_mem _ hj)⟩
        show (decide (0 ≤ (k : Int)) && decide ((k : Int) < n)) = true
        rw [decide_eq_true (by omega), decide_eq_true (l k List.mem_cons_self)]; rfl
theorem natL_len (is : List Nat) : (natL is).length = is.length := List.length_map ..
theorem sem_p_is_ring : ∀ ds ms Q, sp_p_is_ring ds ms Q → t_p_is_ring { nx := fun _ m => Q .non m, rt := Q } (startD 3 ds) ms := by
  intro ds ms Q h
  unfold sp_p_is_ring at h
  split at h
  · rename_i d x
    obtain ⟨g, N, rfl, an, h⟩ := h
    obtain ⟨ty, ety⟩ := an.ty
    simp only [startD]
    unfold t_p_is_ring pgD
    walk_at "st"
    cases x with
    | lst xs =>
      obtain ⟨hl, oka⟩ := an.lst
      walk_at "st"
      have lens : ¬ (1 ≤ xs.length ∧ xs.length ≤ 12) → ¬ IsRing g (.lst xs) := by
        rintro n ⟨rows, e, l1, l2, _⟩
        injection e with e
        rw [e, natL_len] at n
        exact n ⟨l1, l2⟩
      by_cases l1 : (xs.length : Int) < 1
      · rw [decide_eq_true l1]
        walk_at "st"
        exact tf_f h (lens (by omega))
      rw [decide_eq_false l1]
      walk_at "st"
      by_cases l2 : (12 : Int) < (xs.length : Int)
      · rw [decide_eq_true l2]
        walk_at "st"
        exact tf_f h (lens (by omega))
      rw [decide_eq_false l2]
      walk_at "st"
      refine comp_pure (fun x => .bl (isAt (g.rs.length : Int) x)) xs [] _ (by rw [List.length_nil]; omega) (fun x hx P0 q => ?_) ?_
      · walk_at "st"
        rw [List.length_map]
        exact ⟨(oka x hx).ty, q⟩
      rw [List.nil_append]
      walk_at "st"
      refine w_all (bls_map (isAt (g.rs.length : Int)) xs) ?_
      rw [all_id]
      cases ha : xs.all (isAt (g.rs.length : Int)) with
      | false =>
        walk_at "st"
        refine tf_f h fun ⟨rows, e, _, _, hk, _⟩ => ?_
        injection e with e
        rw [isAts_iff.mpr ⟨rows, e, fun k h => by have := hk k h; omega⟩] at ha
        cases ha
      | true =>
      obtain ⟨rows, rfl, hk⟩ := isAts_iff.mp ha
      rw [natL_len] at l1 l2
      have hk : ∀ k ∈ rows, k < g.rs.length := fun k h => by have := hk k h; omega
      walk_at "st"
      refine ⟨g, rows, rfl, rfl, by omega, by omega, hk, ?_⟩
      refine tf_e h ?_
      rw [tf_iff]
      refine ⟨fun c => ⟨rows, rfl, by omega, by omega, hk, c⟩, fun ⟨rows', e, _, _, _, c⟩ => ?_⟩
      injection e with e
      rw [natL_inj e]; exact c
    | _ => cases ety <;> (walk_at "st"; exact tf_f h fun ⟨_, e, _⟩ => by cases e)
  · exact h.elim
theorem ok_p_is_ring (T : Tx P K mg) : FnG P w K mg base 3 T.f_p_is_ring T.d_p_is_ring ["program", "thing"] (spD K sp_p_is_ring) := by
  have G_p_is_closed := ok_p_is_closed (P := P) (w := w) (base := base) T
  have G_p_is_one_of := ok_p_is_one_of (P := P) (w := w) (base := base) T
  exact fnG_of (k := 2) (t := t_p_is_ring) T.F_p_is_ring sc_p_is_ring len_p_is_ring
    (fun cdv A outer s H hr => pds_cons (pds_if (pdt_w (pdw_or (pdt_not (pdt_val (pd_isi .list (by decide) rfl T.n_isinstance rfl T.n_list (by decide +kernel) (by decide) (by decide) (pd_var 1)))) (pdw_or (pdt_cmp op_lt opd_lt (pd_callB call_len cal_len rfl T.n_len (by decide +kernel) (pda_cons (pd_var 1) (pda_nil))) (pd_int)) (pdw_or1 (pdt_cmp op_gt opd_gt (pd_callB call_len cal_len rfl T.n_len (by decide +kernel) (pda_cons (pd_var 1) (pda_nil))) (pd_glob (v := .int (12)) rfl T.c_MOST_IN_RING ⟨_, rfl⟩ (fun _ => .int _))))))) (pds_one (pds_ret (pd_bl))) (pds_nil)) (pds_one (pds_ret (pd_and (pd_callB (cr_all rfl) cal_all rfl T.n_all (by decide +kernel) (pda_cons (pd_lc (own := [("row", 2)]) rfl sc_p_is_ring.nd (pdi_list (pd_var 1)) (blkOk_by (own := [("row", 2)]) (by kernel_rfl)) (fun _ _ _ _ _ => pg_name (i := 2) sc_p_is_ring.nd rfl (by first | exact .inl rfl | exact .inr rfl)) (tg_name (i := 2) (by decide)) (mon_name (i := 2)) (fun _ _ _ _ _ => pdts_nil) (fun _ _ _ _ _ => pd_call G_p_is_one_of (hr.mono (by decide)) rfl T.g_p_is_one_of T.F_p_is_one_of.kp T.b_p_is_one_of_2 (pda_cons (pd_callB call_len cal_len rfl T.n_len (by decide +kernel) (pda_cons (pd_ix ix_seq opd_ix (pd_var 0) (pd_int)) (pda_nil))) (pda_cons (pd_var 2) (pda_nil))))) (pda_nil))) (pd_one (pd_call G_p_is_closed (hr.mono (by decide)) rfl T.g_p_is_closed T.F_p_is_closed.kp T.b_p_is_closed_2 (pda_cons (pd_var 0) (pda_cons (pd_var 1) (pda_nil)))))))))
    sem_p_is_ring
/-! p_is_lists -/
def frsD (s : List (Int × Int)) : D := .lst (s.map fr)
/-- so many lists of so many fractions -/
def Lis (m n : Int) (d : D) : Prop := ∃ st : List (List (Int × Int)), d = .lst (st.map frsD) ∧ (st.length : Int) = m ∧ ∀ s ∈ st, (s.length : Int) = n ∧ ∀ x ∈ s, Low x
def sp_p_is_lists : FS := fun ds ms P => match ds with
  | [.int m, .int n, d] => ∃ N, AnyX N d ∧ N ≤ 4000 ∧ P (.bl (tf (Lis m n d))) ms
  | _ => False
theorem len_p_is_lists : ∀ ds ms Q, sp_p_is_lists ds ms Q → ds.length = 3 := fun ds ms Q h => by
  unfold sp_p_is_lists at h
  split at h <;> first | rfl | exact h.elim
def t_p_is_lists : DTS := dRet (dAndV (dIsi .list (dVar 2)) (dAndV (dOp fEq (dCB cLen (aCons (dVar 2) (aNil))) (dVar 0)) (dCB cAll (aCons (dLc (iSeq (dVar 2)) (sName 3) (dYes) (dCall 2 0 [0, 1] sp_p_is_numbers (aCons (dVar 1) (aCons (dVar 3) (aNil))) (aNil)) [3]) (aNil)))))
theorem fras_iff {n : Int} : ∀ {xs : List D}, (∀ x ∈ xs, Fra n x) ↔ ∃ st : List (List (Int × Int)), xs = st.map frsD ∧ ∀ s ∈ st, (s.length : Int) = n ∧ ∀ x ∈ s, Low x
  | [] => ⟨fun _ => ⟨[], rfl, fun _ h => by cases h⟩, fun _ _ h => by cases h⟩
  | x :: r => by
    constructor
    · intro h
      obtain ⟨ss, e, l, o⟩ := h x List.mem_cons_self
      obtain ⟨st, e2, o2⟩ := fras_iff.mp fun y hy => h y (List.mem_cons_of_mem _ hy)
      refine ⟨ss :: st, by rw [e, e2]; rfl, fun s hs => ?_⟩
      rcases List.mem_cons.mp hs with rfl | hs
      · exact ⟨l, o⟩
      · exact o2 s hs
    · rintro ⟨st, e, o⟩ y hy
      rw [e] at hy
      obtain ⟨s, hs, rfl⟩ := List.mem_map.mp hy
      exact ⟨s, rfl, o s hs⟩
theorem lis_iff {m n : Int} {xs : List D} : Lis m n (.lst xs) ↔ (xs.length : Int) = m ∧ ∀ x ∈ xs, Fra n x := by
  rw [fras_iff]
  refine ⟨fun ⟨st, e, l, o⟩ => ?_, fun ⟨l, st, e, o⟩ => ⟨st, by rw [e], by rw [← l, e, List.length_map], o⟩⟩
  injection e with e
  exact ⟨by rw [e, List.length_map]; exact l, st, e, o⟩
theorem sem_p_is_lists : ∀ ds ms Q, sp_p_is_lists ds ms Q → t_p_is_lists { nx := fun _ m => Q .non m, rt := Q } (startD 4 ds) ms := by
  intro ds ms Q h
  unfold sp_p_is_lists at h
  split at h
  · rename_i m n d
    obtain ⟨N, an, hN, h⟩ := h
    obtain ⟨ty, ety⟩ := an.ty
    simp only [startD]
    unfold t_p_is_lists
    walk_at "st"
    cases d with
    | lst xs =>
      obtain ⟨hl, oka⟩ := an.lst
      walk_at "st"
      cases hb : (xs.length : Int) == m with
      | false =>
        walk_at "st"
        refine tf_f h fun z => ?_
        rw [beq_eq_false_iff_ne] at hb
        exact hb (lis_iff.mp z).1
      | true =>
      walk_at "st"
      refine comp_pure (fun x => .bl (tf (Fra n x))) xs [] _ (by rw [List.length_nil]; omega) (fun x hx P0 q => ?_) ?_
      · walk_at "st"
        exact ⟨N, oka x hx, hN, q⟩
      rw [List.nil_append]
      walk_at "st"
      refine w_all (bls_map (fun x => tf (Fra n x)) xs) ?_
      rw [all_id]
      refine tf_e h ?_
      rw [tfs_all, lis_iff]
      exact ⟨fun z => ⟨beq_iff_eq.mp hb, z⟩, fun z => z.2⟩
    | _ => cases ety <;> (walk_at "st"; exact tf_f h fun ⟨_, e, _⟩ => by cases e)
  · exact h.elim
theorem ok_p_is_lists (T : Tx P K mg) : FnG P w K mg base 4 T.f_p_is_lists T.d_p_is_lists ["many", "size", "thing"] (spD K sp_p_is_lists) := by
  have G_p_is_numbers := ok_p_is_numbers (P := P) (w := w) (base := base) T
  exact fnG_of (k := 3) (t := t_p_is_lists) T.F_p_is_lists sc_p_is_lists len_p_is_lists
    (fun cdv A outer s H hr => pds_one (pds_ret (pd_and (pd_isi .list (by decide) rfl T.n_isinstance rfl T.n_list (by decide +kernel) (by decide) (by decide) (pd_var 2)) (pd_and (pd_cmp (op_eqF hr.r.units) opd_eq (pd_callB call_len cal_len rfl T.n_len (by decide +kernel) (pda_cons (pd_var 2) (pda_nil))) (pd_var 0)) (pd_one (pd_callB (cr_all rfl) cal_all rfl T.n_all (by decide +kernel) (pda_cons (pd_lc (own := [("one", 3)]) rfl sc_p_is_lists.nd (pdi_list (pd_var 2)) (blkOk_by (own := [("one", 3)]) (by kernel_rfl)) (fun _ _ _ _ _ => pg_name (i := 3) sc_p_is_lists.nd rfl (by first | exact .inl rfl | exact .inr rfl)) (tg_name (i := 3) (by decide)) (mon_name (i := 3)) (fun _ _ _ _ _ => pdts_nil) (fun _ _ _ _ _ => pd_call G_p_is_numbers (hr.mono (by decide)) rfl T.g_p_is_numbers T.F_p_is_numbers.kp T.b_p_is_numbers_2 (pda_cons (pd_var 1) (pda_cons (pd_var 3) (pda_nil))))) (pda_nil))))))))
    sem_p_is_lists
/-! p_goes_round -/
/-- what is granted on the way round, and that it comes back moved by its drift -/
structure Rnd (g : Pg) (rows : List Nat) (st dr : List (List (Int × Int))) : Prop where
  wa : ∀ i, i < rows.length → (∀ w ∈ (rowAt g (rows.getD i 0)).ws, Wan w (1, 1) (st.getD i [] ++ st.getD (i + 1) [])) ∧ ∀ w ∈ (rowAt g (rows.getD i 0)).ws, Wan w (0, 1) (dr.getD i [] ++ dr.getD (i + 1) [])
  dz : dr.getD 0 [] = dr.getD rows.length []
  sz : ∀ i, i < g.nm.length → val ((st.getD rows.length []).getD i (0, 1)) = val ((st.getD 0 []).getD i (0, 1)) + val ((dr.getD 0 []).getD i (0, 1))
/-- lists of a round's numbers -/
structure Sts (g : Pg) (N n : Nat) (st : List (List (Int × Int))) : Prop where
  ln : st.length = n + 1
  ok : ∀ s ∈ st, s.length = g.nm.length ∧ ∀ x ∈ s, Low x ∧ FB N N x
def lapL (rows : List Nat) (st dr : List (List (Int × Int))) : D := .tup [.lst (natL rows), .lst (st.map frsD), .lst (dr.map frsD)]
def sp_p_goes_round : FS := fun ds ms P => match ds with
  | [d, x] => ∃ (g : Pg) (rows : List Nat) (st dr : List (List (Int × Int))) (N : Nat), d = pgD g ∧ x = lapL rows st dr ∧ PgOk 500 g ∧ N ≤ 110 ∧ 1 ≤ rows.length ∧ rows.length ≤ 12 ∧ (∀ k ∈ rows, k < g.rs.length) ∧ Sts g N rows.length st ∧ Sts g N rows.length dr ∧ P (.bl (tf (Rnd g rows st dr))) ms
  | _ => False
theorem len_p_goes_round : ∀ ds ms Q, sp_p_goes_round ds ms Q → ds.length = 2 := fun ds ms Q h => by
  unfold sp_p_goes_round at h
  split at h <;> first | rfl | exact h.elim
def t_p_goes_round : DTS := dSeq (dAsg (dVar 1) (sTup 3 (sCons (sName 2) (sCons (sName 3) (sCons (sName 4) (sNil)))))) (dSeq (dFor (iEnumD (aCons (dVar 2) (aNil))) (sTup 2 (sCons (sName 5) (sCons (sName 6) (sNil)))) (dSeq (dAsg (dOp fIx (dOp fIx (dOp fIx (dVar 0) (dC (.int 2))) (dVar 6)) (dC (.int 2))) (sName 7)) (dSeq (dIfS (dNot (dTest (dCall 2 0 [0, 1] sp_p_grants (aCons (dVar 7) (aCons (dOp fAdd (dOp fIx (dVar 3) (dVar 5)) (dOp fIx (dVar 3) (dOp fAdd (dVar 5) (dC (.int 1))))) (aNil))) (aNil)))) (dRet (dC (.bl false))) (dNext)) (dIfS (dNot (dTest (dCall 3 0 [0, 1, 2] sp_p_comes_to (aCons (dVar 7) (aCons (dC k_NOUGHT) (aCons (dOp fAdd (dOp fIx (dVar 4) (dVar 5)) (dOp fIx (dVar 4) (dOp fAdd (dVar 5) (dC (.int 1))))) (aNil)))) (aNil)))) (dRet (dC (.bl false))) (dNext))))) (dRet (dChain fEq fEq (dOp fIx (dVar 4) (dC (.int 0))) (dOp fIx (dVar 4) (dNeg (dC (.int 1)))) (dLc (iZipD (aCons (dOp fIx (dVar 3) (dC (.int 0))) (aCons (dOp fIx (dVar 3) (dNeg (dC (.int 1)))) (aNil)))) (sTup 2 (sCons (sName 8) (sCons (sName 9) (sNil)))) (dYes) (dCall 2 0 [0, 1] sp_p_minus (aCons (dVar 9) (aCons (dVar 8) (aNil))) (aNil)) [8, 9]))))
theorem Sts.at_ {g : Pg} {N n : Nat} {st : List (List (Int × Int))} (h : Sts g N n st) {i : Nat} (hi : i ≤ n) : atI (st.map frsD) (i : Int) = some (.lst ((st.getD i []).map fr)) ∧ (st.getD i []).length = g.nm.length ∧ (∀ x ∈ st.getD i [], Low x) ∧ ∀ x ∈ st.getD i [], FB N N x := by
  have hl := h.ln
  obtain ⟨e, m⟩ := getD_mem [] (xs := st) (i := i) (by omega)
  exact ⟨atI_nat (by rw [List.getElem?_map, e]; rfl), (h.ok _ m).1, fun x hx => ((h.ok _ m).2 x hx).1, fun x hx => ((h.ok _ m).2 x hx).2⟩
theorem Sts.last {g : Pg} {N n : Nat} {st : List (List (Int × Int))} (h : Sts g N n st) : atI (st.map frsD) (-1) = some (.lst ((st.getD n []).map fr)) := by
  have hl := h.ln
  obtain ⟨e, m⟩ := getD_mem [] (xs := st) (i := n) (by omega)
  have : st = st.take n ++ [st.getD n []] := by
    have h1 : st.drop n = [st.getD n []] := by
      have hn : n < st.length := by omega
      rw [List.drop_eq_getElem_cons hn, List.drop_eq_nil_of_le (by omega)]
      rw [List.getElem?_eq_getElem hn] at e
      rw [Option.some.inj e]
    rw [← h1, List.take_append_drop]
  have e2 : st.map frsD = (st.take n).map frsD ++ [frsD (st.getD n [])] := by
    conv => lhs; rw [this]
    rw [List.map_append]; rfl
  rw [e2]
  exact atI_last _ _
theorem enum_nats (rows : List Nat) : enumD (natL rows) = (List.range rows.length).map fun (i : Nat) => D.tup [.int (i : Int), .int ((rows.getD i 0 : Nat) : Int)] := enum_range (fun (k : Nat) => D.int (k : Int)) 0 rows
theorem fit_lap {B n N : Nat} {w : Wi} {xs ys : List (Int × Int)} (hw : WiOk B (2 * n) w) (hB : B ≤ 500) (hn : n ≤ 3) (hN : N ≤ 110) (hx : ∀ x ∈ xs, FB N N x) (hy : ∀ x ∈ ys, FB N N x) : FitG w.l w.fs (xs ++ ys) :=
  ⟨⟨500, 110, (hw.bd _ List.mem_cons_self).mono hB, fun f hf => (hw.bd f (List.mem_cons_of_mem _ hf)).mono hB, fun z hz => (List.mem_append.mp hz).elim (fun h => (hx z h).mono hN hN) fun h => (hy z h).mono hN hN, by rw [hw.ln]; omega⟩, by rw [hw.ln]; omega⟩
theorem low_lap {xs ys : List (Int × Int)} (hx : ∀ x ∈ xs, Low x) (hy : ∀ x ∈ ys, Low x) : ∀ z ∈ xs ++ ys, Low z := fun z hz => (List.mem_append.mp hz).elim (hx z) (hy z)
/-- the last state less the first one is the drift -/
theorem sub_iff {a b d : List (Int × Int)} {n : Nat} (ha : a.length = n) (hb : b.length = n) (hd : d.length = n) (la : ∀ x ∈ a, Low x) (lb : ∀ x ∈ b, Low x) (ld : ∀ x ∈ d, Low x) :
    d = List.zipWith (fun f l => subF l f) a b ↔ ∀ i, i < n → val (b.getD i (0, 1)) = val (a.getD i (0, 1)) + val (d.getD i (0, 1)) := by
  have at_ : ∀ i, i < n → ∃ x y z, a[i]? = some x ∧ b[i]? = some y ∧ d[i]? = some z ∧ a.getD i (0, 1) = x ∧ b.getD i (0, 1) = y ∧ d.getD i (0, 1) = z ∧ Low x ∧ Low y ∧ Low z := fun i hi => by
    obtain ⟨e1, m1⟩ := getD_mem (0, 1) (xs := a) (i := i) (by omega)
    obtain ⟨e2, m2⟩ := getD_mem (0, 1) (xs := b) (i := i) (by omega)
    obtain ⟨e3, m3⟩ := getD_mem (0, 1) (xs := d) (i := i) (by omega)
    exact ⟨_, _, _, e1, e2, e3, rfl, rfl, rfl, la _ m1, lb _ m2, ld _ m3⟩
  constructor
  · intro e i hi
    obtain ⟨x, y, z, e1, e2, e3, g1, g2, g3, l1, l2, l3⟩ := at_ i hi
    rw [g1, g2, g3]
    rw [e, List.getElem?_zipWith, e1, e2] at e3
    have e3 : subF y x = z := Option.some.inj e3
    rw [← e3, val_sub l2.ne l1.ne]
    grind
  · intro h
    refine List.ext_getElem? fun i => ?_
    by_cases hi : i < n
    · obtain ⟨x, y, z, e1, e2, e3, g1, g2, g3, l1, l2, l3⟩ := at_ i hi
      rw [e3, List.getElem?_zipWith, e1, e2]
      have hv := h i hi
      rw [g1, g2, g3] at hv
      refine congrArg some (val_inj l3 (low_low (Int.mul_ne_zero l2.ne l1.ne)) ?_)
      show val z = val (subF y x)
      rw [val_sub l2.ne l1.ne, hv]; grind
    · rw [List.getElem?_eq_none (by omega), List.getElem?_eq_none (by rw [List.length_zipWith]; omega)]
theorem fb_sub {N : Nat} {p q : Int × Int} (hp : FB N N p) (hq : FB N N q) : Bd (2 * N + 1) (p.1 * q.2 - q.1 * p.2) := by
  have h1 := hp.top.mul hq.bot
  have h2 := hq.top.mul hp.bot
  rw [Int.sub_eq_add_neg]
  exact (h1.add h2.neg).mono (by omega)
theorem sem_p_goes_round : ∀ ds ms Q, sp_p_goes_round ds ms Q → t_p_goes_round { nx := fun _ m => Q .non m, rt := Q } (startD 10 ds) ms := by
  intro ds ms Q h
  unfold sp_p_goes_round at h
  split at h
  · obtain ⟨g, rows, st, dr, N, rfl, rfl, ok, hN, l1, l2, hk, hs, hd, h⟩ := h
    have n3 := ok.nm.l2
    obtain ⟨a0, b0, c0, d0⟩ := hs.at_ (i := 0) (by omega)
    obtain ⟨aE, bE, cE, dE⟩ := hs.at_ (i := rows.length) (Nat.le_refl _)
    obtain ⟨p0, q0, r0, s0⟩ := hd.at_ (i := 0) (by omega)
    obtain ⟨pE, qE, rE, sE⟩ := hd.at_ (i := rows.length) (Nat.le_refl _)
    simp only [startD]
    unfold t_p_goes_round pgD lapL
    walk_at "st"
    rw [enum_nats]
    refine loop_all (fun (i : Nat) => D.tup [.int (i : Int), .int ((rows.getD i 0 : Nat) : Int)]) (fun i => tf ((∀ w ∈ (rowAt g (rows.getD i 0)).ws, Wan w (1, 1) (st.getD i [] ++ st.getD (i + 1) [])) ∧ ∀ w ∈ (rowAt g (rows.getD i 0)).ws, Wan w (0, 1) (dr.getD i [] ++ dr.getD (i + 1) [])))
      (fun ds => ∃ x5 x6 x7, ds = [some (.tup [.lst (g.nm.map D.str), .lst (g.pm.map D.str), .lst (g.rs.map rwD)]), some (.tup [.lst (natL rows), .lst (st.map frsD), .lst (dr.map frsD)]), some (.lst (natL rows)), some (.lst (st.map frsD)), some (.lst (dr.map frsD)), x5, x6, x7, none, none]) (List.range rows.length) _ ⟨_, _, _, rfl⟩ ?_ (fun z ds hI => ?_) (fun z => ?_)
    · rintro i hi ds ⟨x5, x6, x7, rfl⟩ G hG hR
      have hi := List.mem_range.mp hi
      have hrow := hk _ (getD_mem 0 hi).2
      have ro := ok.ro _ (mem_at (rowAt_at hrow))
      obtain ⟨a1, b1, c1, d1⟩ := hs.at_ (i := i) (by omega)
      obtain ⟨a2, b2, c2, d2⟩ := hs.at_ (i := i + 1) (by omega)
      obtain ⟨a3, b3, c3, d3⟩ := hd.at_ (i := i) (by omega)
      obtain ⟨a4, b4, c4, d4⟩ := hd.at_ (i := i + 1) (by omega)
      walk_at "st"
      refine w_ix_l (rowAt_ix hrow) ?_
      unfold rwD
      walk_at "st"
      refine w_ix_l a1 ?_
      walk_at "st"
      refine w_ix_l a2 ?_
      walk_at "st"
      refine ⟨size_ok (by rw [List.length_map, List.length_map]; omega), ?_⟩
      walk_at "st"
      refine ⟨(rowAt g (rows.getD i 0)).ws, st.getD i [] ++ st.getD (i + 1) [], rfl, (List.map_append ..).symm, low_lap c1 c2, fun w hw => fit_lap (ro.wo w hw) (by decide) n3 hN d1 d2, ?_⟩
      cases hz1 : tf (∀ w ∈ (rowAt g (rows.getD i 0)).ws, Wan w (1, 1) (st.getD i [] ++ st.getD (i + 1) [])) with
      | false =>
        walk_at "st"
        exact hR (tf_no fun z => by rw [tf_yes z.1] at hz1; cases hz1)
      | true =>
      walk_at "st"
      refine w_ix_l a3 ?_
      walk_at "st"
      refine w_ix_l a4 ?_
      walk_at "st"
      refine ⟨size_ok (by rw [List.length_map, List.length_map]; omega), ?_⟩
      walk_at "st"
      refine ⟨(rowAt g (rows.getD i 0)).ws, dr.getD i [] ++ dr.getD (i + 1) [], rfl, (List.map_append ..).symm, low_int 0, (fb_int (n := 1) (by unfold Bd; decide)).mono (by decide) (by decide), low_lap c3 c4, fun w hw => fit_lap (ro.wo w hw) (by decide) n3 hN d3 d4, ?_⟩
      cases hz2 : tf (∀ w ∈ (rowAt g (rows.getD i 0)).ws, Wan w (0, 1) (dr.getD i [] ++ dr.getD (i + 1) [])) with
      | false =>
        walk_at "st"
        exact hR (tf_no fun z => by rw [tf_yes z.2] at hz2; cases hz2)
      | true =>
      walk_at "st"
      exact hG (tf_yes ⟨tf_iff.mp hz1, tf_iff.mp hz2⟩) _ ⟨_, _, _, rfl⟩
    · obtain ⟨x5, x6, x7, rfl⟩ := hI
      have wa := fun i hi => (tfs_all (fun i => (∀ w ∈ (rowAt g (rows.getD i 0)).ws, Wan w (1, 1) (st.getD i [] ++ st.getD (i + 1) [])) ∧ ∀ w ∈ (rowAt g (rows.getD i 0)).ws, Wan w (0, 1) (dr.getD i [] ++ dr.getD (i + 1) [])) _).mp z i (List.mem_range.mpr hi)
      walk_at "st"
      refine w_ix_l p0 ?_
      walk_at "st"
      refine w_ix_l hd.last ?_
      walk_at "st"
      refine w_eq_frs ?_
      walk_at "st"
      by_cases e1 : ¬ dr.getD 0 [] = dr.getD rows.length []
      · rw [decide_eq_false e1]
        walk_at "st"
        exact tf_f h fun z => e1 z.dz
      have e1 : dr.getD 0 [] = dr.getD rows.length [] := Decidable.of_not_not e1
      rw [decide_eq_true e1]
      walk_at "st"
      refine w_ix_l a0 ?_
      walk_at "st"
      refine w_ix_l hs.last ?_
      walk_at "st"
      rw [zipD_mp]
      simp only [wipeD, List.set]
      refine comp_e (fun p : (Int × Int) × (Int × Int) => D.tup [fr p.1, fr p.2]) (fun p => fr (subF p.2 p.1)) ((st.getD 0 []).zip (st.getD rows.length [])) [] _ (by rw [List.length_zip, List.length_nil]; omega) (fun p hp P0 q => ?_) ?_
      · have f1 := d0 _ (List.of_mem_zip hp).1
        have f2 := dE _ (List.of_mem_zip hp).2
        unfold fr
        walk_at "st"
        exact ⟨⟨f2.ne, f1.ne, f2.top.mono (by omega), f2.bot.mono (by omega), f1.top.mono (by omega), f1.bot.mono (by omega)⟩, q⟩
      rw [List.nil_append, show ((st.getD 0 []).zip (st.getD rows.length [])).map (fun p => fr (subF p.2 p.1)) = (List.zipWith (fun f l => subF l f) (st.getD 0 []) (st.getD rows.length [])).map fr by
        rw [List.map_zipWith, ← List.map_uncurry_zip_eq_zipWith]; rfl]
      walk_at "st"
      refine w_eq_frs ?_
      refine tf_e h ?_
      rw [decide_eq_true_iff, sub_iff b0 bE qE c0 cE rE]
      constructor
      · intro v
        exact ⟨wa, e1, by rw [e1]; exact v⟩
      · intro z
        have := z.sz
        rw [e1] at this
        exact this
    · refine tf_f h fun G => ?_
      rw [(tfs_all (fun i => (∀ w ∈ (rowAt g (rows.getD i 0)).ws, Wan w (1, 1) (st.getD i [] ++ st.getD (i + 1) [])) ∧ ∀ w ∈ (rowAt g (rows.getD i 0)).ws, Wan w (0, 1) (dr.getD i [] ++ dr.getD (i + 1) [])) _).mpr fun i hi => G.wa i (List.mem_range.mp hi)] at z
      cases z
  · exact h.elim
theorem ok_p_goes_round (T : Tx P K mg) : FnG P w K mg base 7 T.f_p_goes_round T.d_p_goes_round ["program", "told"] (spD K sp_p_goes_round) := by
  have G_p_grants := ok_p_grants (P := P) (w := w) (base := base) T
  have G_p_comes_to := ok_p_comes_to (P := P) (w := w) (base := base) T
  have G_p_minus := ok_p_minus (P := P) (w := w) (base := base) T
  exact fnG_of (k := 6) (t := t_p_goes_round) T.F_p_goes_round sc_p_goes_round len_p_goes_round
    (fun cdv A outer s H hr => pds_cons (pds_asg (vs := [2, 3, 4]) (pd_var 1) (pg_tup rfl (pgs_cons (pg_name (i := 2) sc_p_goes_round.nd rfl (.inl rfl)) (pgs_cons (pg_name (i := 3) sc_p_goes_round.nd rfl (.inl rfl)) (pgs_cons (pg_name (i := 4) sc_p_goes_round.nd rfl (.inl rfl)) (pgs_nil))))) (tg_tup (tgs_cons (tg_name (i := 2) (by decide)) (tgs_cons (tg_name (i := 3) (by decide)) (tgs_cons (tg_name (i := 4) (by decide)) (tgs_nil) (mon_name (i := 4))) (mon_name (i := 3))) (mon_name (i := 2))))) (pds_cons (pds_for (vs := [5, 6]) rfl (pdi_enum rfl T.n_enumerate (pda_cons (pd_var 2) (pda_nil))) (pg_tup rfl (pgs_cons (pg_name (i := 5) sc_p_goes_round.nd rfl (.inl rfl)) (pgs_cons (pg_name (i := 6) sc_p_goes_round.nd rfl (.inl rfl)) (pgs_nil)))) (tg_tup (tgs_cons (tg_name (i := 5) (by decide)) (tgs_cons (tg_name (i := 6) (by decide)) (tgs_nil) (mon_name (i := 6))) (mon_name (i := 5)))) (pds_cons (pds_set (i := 7) sc_p_goes_round.nd rfl (.inl rfl) (pd_ix ix_seq opd_ix (pd_ix ix_seq opd_ix (pd_ix ix_seq opd_ix (pd_var 0) (pd_int)) (pd_var 6)) (pd_int))) (pds_cons (pds_if (pdt_not (pdt_val (pd_call G_p_grants (hr.mono (by decide)) rfl T.g_p_grants T.F_p_grants.kp T.b_p_grants_2 (pda_cons (pd_var 7) (pda_cons (pd_op op_addD opd_add (pd_ix ix_seq opd_ix (pd_var 3) (pd_var 5)) (pd_ix ix_seq opd_ix (pd_var 3) (pd_op op_addD opd_add (pd_var 5) (pd_int)))) (pda_nil)))))) (pds_one (pds_ret (pd_bl))) (pds_nil)) (pds_one (pds_if (pdt_not (pdt_val (pd_call G_p_comes_to (hr.mono (by decide)) rfl T.g_p_comes_to T.F_p_comes_to.kp T.b_p_comes_to_3 (pda_cons (pd_var 7) (pda_cons (pd_glob (v := .ref T.a_NOUGHT) rfl T.c_NOUGHT rfl T.k_NOUGHT) (pda_cons (pd_op op_addD opd_add (pd_ix ix_seq opd_ix (pd_var 4) (pd_var 5)) (pd_ix ix_seq opd_ix (pd_var 4) (pd_op op_addD opd_add (pd_var 5) (pd_int)))) (pda_nil))))))) (pds_one (pds_ret (pd_bl))) (pds_nil)))))) (pds_one (pds_ret (pd_chain (op_eqF hr.r.units) opd_eq (op_eqF hr.r.units) opd_eq (pd_ix ix_seq opd_ix (pd_var 4) (pd_int)) (pd_ix ix_seq opd_ix (pd_var 4) (pd_neg (pd_int))) (pd_lc (own := [("first", 8), ("last", 9)]) rfl sc_p_goes_round.nd (pdi_zip rfl T.n_zip (pda_cons (pd_ix ix_seq opd_ix (pd_var 3) (pd_int)) (pda_cons (pd_ix ix_seq opd_ix (pd_var 3) (pd_neg (pd_int))) (pda_nil)))) (blkOk_by (own := [("first", 8), ("last", 9)]) (by kernel_rfl)) (fun _ _ _ _ _ => pg_tup rfl (pgs_cons (pg_name (i := 8) sc_p_goes_round.nd rfl (by first | exact .inl rfl | exact .inr rfl)) (pgs_cons (pg_name (i := 9) sc_p_goes_round.nd rfl (by first | exact .inl rfl | exact .inr rfl)) (pgs_nil)))) (tg_tup (tgs_cons (tg_name (i := 8) (by decide)) (tgs_cons (tg_name (i := 9) (by decide)) (tgs_nil) (mon_name (i := 9))) (mon_name (i := 8)))) (mon_tup (mon_cons (mon_name (i := 8)) (mon_cons (mon_name (i := 9)) (mon_nil)))) (fun _ _ _ _ _ => pdts_nil) (fun _ _ _ _ _ => pd_call G_p_minus (hr.mono (by decide)) rfl T.g_p_minus T.F_p_minus.kp T.b_p_minus_2 (pda_cons (pd_var 9) (pda_cons (pd_var 8) (pda_nil))))))))))
    sem_p_goes_round
/-! p_is_round -/
structure LapOk (g : Pg) (rows : List Nat) (st dr : List (List (Int × Int))) : Prop where
  l1 : 1 ≤ rows.length
  l2 : rows.length ≤ 12
  rl : ∀ k ∈ rows, k < g.rs.length
  cl : Clo g rows
  sl : st.length = rows.length + 1
  dl : dr.length = rows.length + 1
  sf : ∀ s ∈ st, s.length = g.nm.length ∧ ∀ x ∈ s, Low x
  df : ∀ s ∈ dr, s.length = g.nm.length ∧ ∀ x ∈ s, Low x
  rd : Rnd g rows st dr
def IsLap (g : Pg) (d : D) : Prop := ∃ rows st dr, d = lapL rows st dr ∧ LapOk g rows st dr
def sp_p_is_round : FS := fun ds ms P => match ds with
  | [d, x] => ∃ (g : Pg), d = pgD g ∧ PgOk 500 g ∧ AnyX 110 x ∧ P (.bl (tf (IsLap g x))) ms
  | _ => False
theorem len_p_is_round : ∀ ds ms Q, sp_p_is_round ds ms Q → ds.length = 2 := fun ds ms Q h => by
  unfold sp_p_is_round at h
  split at h <;> first | rfl | exact h.elim
def t_p_is_round : DTS := dSeq (dIfS (dOr (dNot (dTest (dIsi .tuple (dVar 1)))) (dTest (dOp fNe (dCB cLen (aCons (dVar 1) (aNil))) (dC (.int 3))))) (dRet (dC (.bl false))) (dNext)) (dSeq (dAsg (dVar 1) (sTup 3 (sCons (sName 2) (sCons (sName 3) (sCons (sName 4) (sNil)))))) (dSeq (dIfS (dNot (dTest (dCall 2 0 [0, 1] sp_p_is_ring (aCons (dVar 0) (aCons (dVar 2) (aNil))) (aNil)))) (dRet (dC (.bl false))) (dNext)) (dSeq (dAsg (dCB cLen (aCons (dOp fIx (dVar 0) (dC (.int 0))) (aNil))) (sName 5)) (dSeq (dIfS (dOr (dNot (dTest (dCall 3 0 [0, 1, 2] sp_p_is_lists (aCons (dOp fAdd (dCB cLen (aCons (dVar 2) (aNil))) (dC (.int 1))) (aCons (dVar 5) (aCons (dVar 3) (aNil)))) (aNil)))) (dNot (dTest (dCall 3 0 [0, 1, 2] sp_p_is_lists (aCons (dOp fAdd (dCB cLen (aCons (dVar 2) (aNil))) (dC (.int 1))) (aCons (dVar 5) (aCons (dVar 4) (aNil)))) (aNil))))) (dRet (dC (.bl false))) (dNext)) (dRet (dCall 2 0 [0, 1] sp_p_goes_round (aCons (dVar 0) (aCons (dVar 1) (aNil))) (aNil)))))))
theorem frsD_inj {s t : List (Int × Int)} (h : frsD s = frsD t) : s = t := by
  unfold frsD at h
  injection h with h
  exact frs_inj h
theorem maps_injL {α : Type} {f : α → D} (hf : ∀ a b, f a = f b → a = b) : ∀ {xs ys : List α}, xs.map f = ys.map f → xs = ys
  | [], [], _ => rfl
  | [], _ :: _, h => by cases h
  | _ :: _, [], h => by cases h
  | x :: xs, y :: ys, h => by
    rw [List.map_cons, List.map_cons] at h
    injection h with h1 h2
    rw [hf _ _ h1, maps_injL hf h2]
theorem lap_inj {r r' : List Nat} {s s' d d' : List (List (Int × Int))} (h : lapL r s d = lapL r' s' d') : r = r' ∧ s = s' ∧ d = d' := by
  unfold lapL at h
  simp only [D.tup.injEq, List.cons.injEq, D.lst.injEq, and_true] at h
  exact ⟨natL_inj h.1, maps_injL (fun _ _ => frsD_inj) h.2.1, maps_injL (fun _ _ => frsD_inj) h.2.2⟩
theorem lap_iff {g : Pg} {x0 x1 x2 : D} : IsLap g (.tup [x0, x1, x2]) ↔ ∃ rows st dr, x0 = .lst (natL rows) ∧ x1 = .lst (st.map frsD) ∧ x2 = .lst (dr.map frsD) ∧ LapOk g rows st dr := by
  constructor
  · rintro ⟨rows, st, dr, e, o⟩
    unfold lapL at e
    simp only [D.tup.injEq, List.cons.injEq, and_true] at e
    exact ⟨rows, st, dr, e.1, e.2.1, e.2.2, o⟩
  · rintro ⟨rows, st, dr, rfl, rfl, rfl, o⟩
    exact ⟨rows, st, dr, rfl, o⟩
theorem any_sts {g : Pg} {N n : Nat} {st : List (List (Int × Int))} (h : AnyX N (.lst (st.map frsD))) (hl : st.length = n + 1) (o : ∀ s ∈ st, s.length = g.nm.length ∧ ∀ x ∈ s, Low x) : Sts g N n st :=
  ⟨hl, fun s hs => ⟨(o s hs).1, fun x hx => ⟨(o s hs).2 x hx, any_fbs (h.lst.2 (frsD s) (List.mem_map_of_mem hs)) (o s hs).2 x hx⟩⟩⟩
theorem sem_p_is_round : ∀ ds ms Q, sp_p_is_round ds ms Q → t_p_is_round { nx := fun _ m => Q .non m, rt := Q } (startD 6 ds) ms := by
  intro ds ms Q h
  unfold sp_p_is_round at h
  split at h
  · rename_i d x
    obtain ⟨g, rfl, ok, an, h⟩ := h
    have n3 := ok.nm.l2
    obtain ⟨ty, ety⟩ := an.ty
    simp only [startD]
    unfold t_p_is_round pgD
    walk_at "st"
    cases x with
    | tup xs =>
      obtain ⟨hl, oka⟩ := an.tup
      walk_at "st"
      by_cases h3 : xs.length ≠ 3
      · refine w_iteT (by rw [Bool.not_eq_true', beq_eq_false_iff_ne]; omega) ?_
        walk_at "st"
        refine tf_f h fun ⟨_, _, _, e, _⟩ => ?_
        injection e with e
        rw [e] at h3
        exact h3 rfl
      have h3 : xs.length = 3 := by omega
      refine w_iteF (by rw [h3]; rfl) ?_
      match xs, h3 with
      | [x0, x1, x2], _ =>
      have a0 := oka x0 (by simp)
      have a1 := oka x1 (by simp)
      have a2 := oka x2 (by simp)
      have h := tf_e (b := tf (∃ rows st dr, x0 = .lst (natL rows) ∧ x1 = .lst (st.map frsD) ∧ x2 = .lst (dr.map frsD) ∧ LapOk g rows st dr)) h (by rw [tf_iff, lap_iff])
      walk_at "st"
      refine ⟨g, 110, rfl, a0, ?_⟩
      cases hr : tf (IsRing g x0) with
      | false =>
        walk_at "st"
        refine tf_f h fun ⟨rows, st, dr, e, _, _, o⟩ => ?_
        rw [tf_yes ⟨rows, e, o.l1, o.l2, o.rl, o.cl⟩] at hr
        cases hr
      | true =>
      obtain ⟨rows, rfl, l1, l2, hk, cl⟩ := tf_iff.mp hr
      walk_at "st"
      rw [List.length_map, natL_len]
      refine ⟨110, a1, by decide, ?_⟩
      have out : ∀ {st dr : List (List (Int × Int))}, x1 = .lst (st.map frsD) ∧ x2 = .lst (dr.map frsD) ∧ LapOk g rows st dr → Lis ((rows.length : Int) + 1) (g.nm.length : Int) x1 ∧ Lis ((rows.length : Int) + 1) (g.nm.length : Int) x2 := fun ⟨e1, e2, o⟩ =>
        ⟨⟨_, e1, by rw [o.sl]; rfl, fun s hs => ⟨by rw [(o.sf s hs).1], (o.sf s hs).2⟩⟩, ⟨_, e2, by rw [o.dl]; rfl, fun s hs => ⟨by rw [(o.df s hs).1], (o.df s hs).2⟩⟩⟩
      cases hs : tf (Lis ((rows.length : Int) + 1) (g.nm.length : Int) x1) with
      | false =>
        walk_at "st"
        refine tf_f h fun ⟨rows', st, dr, e, e1, e2, o⟩ => ?_
        injection e with e
        have := natL_inj e
        subst this
        rw [tf_yes (out ⟨e1, e2, o⟩).1] at hs
        cases hs
      | true =>
      walk_at "st"
      rw [natL_len]
      refine ⟨110, a2, by decide, ?_⟩
      cases hd : tf (Lis ((rows.length : Int) + 1) (g.nm.length : Int) x2) with
      | false =>
        walk_at "st"
        refine tf_f h fun ⟨rows', st, dr, e, e1, e2, o⟩ => ?_
        injection e with e
        have := natL_inj e
        subst this
        rw [tf_yes (out ⟨e1, e2, o⟩).2] at hd
        cases hd
      | true =>
      obtain ⟨st, rfl, sl, so⟩ := tf_iff.mp hs
      obtain ⟨dr, rfl, dl, do_⟩ := tf_iff.mp hd
      have so : ∀ s ∈ st, s.length = g.nm.length ∧ ∀ x ∈ s, Low x := fun s hs => ⟨by have := (so s hs).1; omega, (so s hs).2⟩
      have do_ : ∀ s ∈ dr, s.length = g.nm.length ∧ ∀ x ∈ s, Low x := fun s hs => ⟨by have := (do_ s hs).1; omega, (do_ s hs).2⟩
      walk_at "st"
      refine ⟨g, rows, st, dr, 110, rfl, rfl, ok, by decide, l1, l2, hk, any_sts a1 (by omega) so, any_sts a2 (by omega) do_, ?_⟩
      refine tf_e h ?_
      rw [tf_iff]
      constructor
      · intro z
        exact ⟨rows, st, dr, rfl, rfl, rfl, l1, l2, hk, cl, by omega, by omega, so, do_, z⟩
      · rintro ⟨rows', st', dr', e, e1, e2, o⟩
        injection e with e
        injection e1 with e1
        injection e2 with e2
        have := natL_inj e
        subst this
        have := maps_injL (fun _ _ => frsD_inj) e1
        subst this
        have := maps_injL (fun _ _ => frsD_inj) e2
        subst this
        exact o.rd
    | _ => cases ety <;> (walk_at "st"; exact tf_f h fun ⟨_, _, _, e, _⟩ => by cases e)
  · exact h.elim
theorem ok_p_is_round (T : Tx P K mg) : FnG P w K mg base 8 T.f_p_is_round T.d_p_is_round ["program", "thing"] (spD K sp_p_is_round) := by
  have G_p_goes_round := ok_p_goes_round (P := P) (w := w) (base := base) T
  have G_p_is_ring := ok_p_is_ring (P := P) (w := w) (base := base) T
  have G_p_is_lists := ok_p_is_lists (P := P) (w := w) (base := base) T
  exact fnG_of (k := 7) (t := t_p_is_round) T.F_p_is_round sc_p_is_round len_p_is_round
    (fun cdv A outer s H hr => pds_cons (pds_if (pdt_w (pdw_or (pdt_not (pdt_val (pd_isi .tuple (by decide) rfl T.n_isinstance rfl T.n_tuple (by decide +kernel) (by decide) (by decide) (pd_var 1)))) (pdw_or1 (pdt_cmp (op_neF hr.r.units) opd_ne (pd_callB call_len cal_len rfl T.n_len (by decide +kernel) (pda_cons (pd_var 1) (pda_nil))) (pd_int))))) (pds_one (pds_ret (pd_bl))) (pds_nil)) (pds_cons (pds_asg (vs := [2, 3, 4]) (pd_var 1) (pg_tup rfl (pgs_cons (pg_name (i := 2) sc_p_is_round.nd rfl (.inl rfl)) (pgs_cons (pg_name (i := 3) sc_p_is_round.nd rfl (.inl rfl)) (pgs_cons (pg_name (i := 4) sc_p_is_round.nd rfl (.inl rfl)) (pgs_nil))))) (tg_tup (tgs_cons (tg_name (i := 2) (by decide)) (tgs_cons (tg_name (i := 3) (by decide)) (tgs_cons (tg_name (i := 4) (by decide)) (tgs_nil) (mon_name (i := 4))) (mon_name (i := 3))) (mon_name (i := 2))))) (pds_cons (pds_if (pdt_not (pdt_val (pd_call G_p_is_ring (hr.mono (by decide)) rfl T.g_p_is_ring T.F_p_is_ring.kp T.b_p_is_ring_2 (pda_cons (pd_var 0) (pda_cons (pd_var 2) (pda_nil)))))) (pds_one (pds_ret (pd_bl))) (pds_nil)) (pds_cons (pds_set (i := 5) sc_p_is_round.nd rfl (.inl rfl) (pd_callB call_len cal_len rfl T.n_len (by decide +kernel) (pda_cons (pd_ix ix_seq opd_ix (pd_var 0) (pd_int)) (pda_nil)))) (pds_cons (pds_if (pdt_w (pdw_or (pdt_not (pdt_val (pd_call G_p_is_lists (hr.mono (by decide)) rfl T.g_p_is_lists T.F_p_is_lists.kp T.b_p_is_lists_3 (pda_cons (pd_op op_addD opd_add (pd_callB call_len cal_len rfl T.n_len (by decide +kernel) (pda_cons (pd_var 2) (pda_nil))) (pd_int)) (pda_cons (pd_var 5) (pda_cons (pd_var 3) (pda_nil))))))) (pdw_or1 (pdt_not (pdt_val (pd_call G_p_is_lists (hr.mono (by decide)) rfl T.g_p_is_lists T.F_p_is_lists.kp T.b_p_is_lists_3 (pda_cons (pd_op op_addD opd_add (pd_callB call_len cal_len rfl T.n_len (by decide +kernel) (pda_cons (pd_var 2) (pda_nil))) (pd_int)) (pda_cons (pd_var 5) (pda_cons (pd_var 4) (pda_nil)))))))))) (pds_one (pds_ret (pd_bl))) (pds_nil)) (pds_one (pds_ret (pd_call G_p_goes_round (hr.mono (by decide)) rfl T.g_p_goes_round T.F_p_goes_round.kp T.b_p_goes_round_2 (pda_cons (pd_var 0) (pda_cons (pd_var 1) (pda_nil)))))))))))
    sem_p_is_round
/-! p_lets_round -/
def sp_p_lets_round : FS := fun ds ms P => match ds with
  | [d, x] => ∃ (g : Pg), d = pgD g ∧ PgOk 500 g ∧ AnyX 110 x ∧ P (.bl (tf (IsLap g x))) ms
  | _ => False
theorem len_p_lets_round : ∀ ds ms Q, sp_p_lets_round ds ms Q → ds.length = 2 := fun ds ms Q h => by
  unfold sp_p_lets_round at h
  split at h <;> first | rfl | exact h.elim
def t_p_lets_round : DTS := dSeq (dDrop (dCall 1 0 [0] sp_p_look_at (aCons (dVar 0) (aNil)) (aNil))) (dRet (dCall 2 0 [0, 1] sp_p_is_round (aCons (dVar 0) (aCons (dVar 1) (aNil))) (aNil)))
theorem sem_p_lets_round : ∀ ds ms Q, sp_p_lets_round ds ms Q → t_p_lets_round { nx := fun _ m => Q .non m, rt := Q } (startD 2 ds) ms := by
  intro ds ms Q h
  unfold sp_p_lets_round at h
  split at h
  · obtain ⟨g, rfl, ok, an, h⟩ := h
    simp only [startD]
    unfold t_p_lets_round
    walk_at "st"
    refine ⟨g, 500, rfl, ok, ?_⟩
    walk_at "st"
    exact ⟨g, rfl, ok, an, h⟩
  · exact h.elim
theorem ok_p_lets_round (T : Tx P K mg) : FnG P w K mg base 9 T.f_p_lets_round T.d_p_lets_round ["program", "thing"] (spD K sp_p_lets_round) := by
  have G_p_look_at := ok_p_look_at (P := P) (w := w) (base := base) T
  have G_p_is_round := ok_p_is_round (P := P) (w := w) (base := base) T
  exact fnG_of (k := 8) (t := t_p_lets_round) T.F_p_lets_round sc_p_lets_round len_p_lets_round
    (fun cdv A outer s H hr => pds_cons (pds_expr (pd_call G_p_look_at (hr.mono (by decide)) rfl T.g_p_look_at T.F_p_look_at.kp T.b_p_look_at_1 (pda_cons (pd_var 0) (pda_nil)))) (pds_one (pds_ret (pd_call G_p_is_round (hr.mono (by decide)) rfl T.g_p_is_round T.F_p_is_round.kp T.b_p_is_round_2 (pda_cons (pd_var 0) (pda_cons (pd_var 1) (pda_nil)))))))
    sem_p_lets_round
/-! L_pool -/
/-! the pool: two numbers, that of the cell and the mixed one -/
def PO (a b : Int) : Prop := 0 ≤ a ∧ 0 ≤ b ∧ b < 2147483647
def PoolAt (ms : MS) (p : Addr) : Prop := ∃ a b, PO a b ∧ look ms p = some [.int a, .int b]
def pu (ms : MS) (p : Addr) (a b : Int) : MS := put ms p [.int a, .int b]
theorem put_put : ∀ (ms : MS) (p : Addr) (x y : List D), put (put ms p x) p y = put ms p y
  | [], _, _, _ => rfl
  | (q, zs) :: r, p, x, y => by
    by_cases h : q = p
    · simp only [put, h, if_true]
    · simp only [put, h, if_false, put_put r p x y]
theorem pu_pu (ms : MS) (p : Addr) (a b c d : Int) : pu (pu ms p a b) p c d = pu ms p c d := put_put ms p _ _
theorem PoolAt.pu {ms : MS} {p : Addr} (h : PoolAt ms p) {a b : Int} (o : PO a b) : PoolAt (pu ms p a b) p := by
  obtain ⟨x, y, _, e⟩ := h
  exact ⟨a, b, o, look_put_same e⟩
/-- the pool has been drawn from, all else is as it was -/
def Chg (ms : MS) (p : Addr) (ms' : MS) : Prop := ∃ a b, PO a b ∧ ms' = pu ms p a b
theorem put_self : ∀ {ms : MS} {p : Addr} {xs : List D}, look ms p = some xs → put ms p xs = ms
  | [], _, _, h => by cases h
  | (q, zs) :: r, p, xs, h => by
    unfold look at h
    by_cases e : q = p
    · rw [if_pos e] at h
      cases h
      simp only [put, e, if_true]
    · rw [if_neg e] at h
      simp only [put, e, if_false, put_self h]
theorem PoolAt.refl {ms : MS} {p : Addr} (h : PoolAt ms p) : Chg ms p ms := by
  obtain ⟨a, b, o, e⟩ := h
  exact ⟨a, b, o, (put_self e).symm⟩
theorem Chg.trans {ms m1 m2 : MS} {p : Addr} (h : Chg ms p m1) (h2 : Chg m1 p m2) : Chg ms p m2 := by
  obtain ⟨a, b, o, rfl⟩ := h
  obtain ⟨c, d, o2, rfl⟩ := h2
  exact ⟨c, d, o2, pu_pu ms p a b c d⟩
theorem PoolAt.chg {ms m1 : MS} {p : Addr} (h : PoolAt ms p) (c : Chg ms p m1) : PoolAt m1 p := by
  obtain ⟨a, b, o, rfl⟩ := c
  exact h.pu o
theorem PoolAt.new {ms : MS} {p : Addr} {a b : Int} (o : PO a b) : PoolAt ((p, [.int a, .int b]) :: ms) p := ⟨a, b, o, by unfold look; rw [if_pos rfl]⟩
def sp_L_pool : FS := fun ds ms P => match ds with
  | [.fro xs, .int k] => ∃ ns : List Int, xs = ns.map D.int ∧ 0 ≤ k ∧ k < 100 ∧ ∀ p, (∀ q ∈ ms, q.1 ≠ p) → ∀ a b, PO a b → P (.opq (.ref p)) ((p, [.int a, .int b]) :: ms)
  | _ => False
theorem len_L_pool : ∀ ds ms Q, sp_L_pool ds ms Q → ds.length = 2 := fun ds ms Q h => by
  unfold sp_L_pool at h
  split at h <;> first | rfl | exact h.elim
def t_L_pool : DTS := dSeq (dAsg (dC (.int 0)) (sName 2)) (dSeq (dIfS (dTest (dOp fLt (dVar 1) (dCB cLen (aCons (dVar 0) (aNil))))) (dAsg (dOp fIx (dVar 0) (dVar 1)) (sName 2)) (dNext)) (dSeq (dAsg (dOp fMod (dOp fPow (dOp fAdd (dOp fAdd (dOp fMod (dVar 2) (dC (.int 2147483629))) (dOp fMul (dOp fMul (dC (.int 104729)) (dVar 1)) (dVar 1))) (dC (.int 17))) (dC (.int 3))) (dC (.int 2147483647))) (sName 3)) (dSeq (dIfS (dTest (dOp fLt (dVar 2) (dOp fPow (dC (.int 10)) (dC (.int 18))))) (dAsg (dC (.int 0)) (sName 2)) (dNext)) (dRet (dLstM (aCons (dVar 2) (aCons (dVar 3) (aNil))))))))
theorem w_powN {i j : Int} {ms : MS} {P : D → MS → Prop} (e : CPow i j) (h : P (.int (i ^ j.toNat)) ms) : fPow (.int i) (.int j) ms P := ⟨e, h⟩
theorem seed_bd {c k : Int} (k0 : 0 ≤ k) (k1 : k < 100) : 0 ≤ c.fmod 2147483629 + 104729 * k * k + 17 ∧ c.fmod 2147483629 + 104729 * k * k + 17 < 2 ^ 33 := by
  have h1 := Int.fmod_nonneg_of_pos c (show (0 : Int) < 2147483629 by decide)
  have h2 := Int.fmod_lt_of_pos c (show (0 : Int) < 2147483629 by decide)
  have h3 : 0 ≤ 104729 * k * k := Int.mul_nonneg (by omega) k0
  have h4 : 104729 * k * k ≤ 104729 * 100 * 100 := Int.mul_le_mul (by omega) (by omega) k0 (by decide)
  omega
theorem pool_end {c k : Int} {x0 x3 : Option D} {ms : MS} {Q : D → MS → Prop} (k0 : 0 ≤ k) (k1 : k < 100) (h : ∀ p, (∀ q ∈ ms, q.1 ≠ p) → ∀ a b, PO a b → Q (.opq (.ref p)) ((p, [.int a, .int b]) :: ms)) (hx : x3 = none) :
    StG (dSeq (dAsg (dOp fMod (dOp fPow (dOp fAdd (dOp fAdd (dOp fMod (dVar 2) (dC (.int 2147483629))) (dOp fMul (dOp fMul (dC (.int 104729)) (dVar 1)) (dVar 1))) (dC (.int 17))) (dC (.int 3))) (dC (.int 2147483647))) (sName 3))
      (dSeq (dIfS (dTest (dOp fLt (dVar 2) (dOp fPow (dC (.int 10)) (dC (.int 18))))) (dAsg (dC (.int 0)) (sName 2)) dNext) (dRet (dLstM (aCons (dVar 2) (aCons (dVar 3) aNil)))))) { nx := fun _ m => Q .non m, rt := Q } [x0, some (.int k), some (.int c), x3] ms := by
  subst hx
  obtain ⟨b0, b1⟩ := seed_bd (c := c) k0 k1
  walk_at "st"
  refine ⟨by decide, ?_⟩
  walk_at "st"
  refine ⟨.inr (.inr ⟨by omega, by omega⟩), ?_⟩
  walk_at "st"
  refine ⟨.inr (.inr ⟨by omega, by omega⟩), ?_⟩
  walk_at "st"
  refine w_powN ⟨by decide, by decide, by omega⟩ ?_
  walk_at "st"
  refine ⟨by decide, ?_⟩
  generalize (c.fmod 2147483629 + 104729 * k * k + 17) ^ Int.toNat 3 = z
  have f0 := Int.fmod_nonneg_of_pos z (show (0 : Int) < 2147483647 by decide)
  have f1 := Int.fmod_lt_of_pos z (show (0 : Int) < 2147483647 by decide)
  walk_at "st"
  by_cases hc : c < 1000000000000000000
  · refine w_iteT (decide_eq_true hc) ?_
    walk_at "st"
    exact fun p hp => h p hp _ _ ⟨by decide, f0, f1⟩
  · refine w_iteF (decide_eq_false hc) ?_
    walk_at "st"
    exact fun p hp => h p hp _ _ ⟨by omega, f0, f1⟩
theorem sem_L_pool : ∀ ds ms Q, sp_L_pool ds ms Q → t_L_pool { nx := fun _ m => Q .non m, rt := Q } (startD 4 ds) ms := by
  intro ds ms Q h
  unfold sp_L_pool at h
  split at h
  · rename_i xs k
    obtain ⟨ns, rfl, k0, k1, h⟩ := h
    simp only [startD]
    unfold t_L_pool
    walk_at "st"
    by_cases hk : k < ((ns.map D.int).length : Int)
    · refine w_iteT (decide_eq_true hk) ?_
      have hl : k.toNat < ns.length := by rw [List.length_map] at hk; omega
      obtain ⟨c, ha⟩ : ∃ c : Int, atI (ns.map D.int) k = some (.int c) := by
        obtain ⟨j, rfl⟩ : ∃ j : Nat, k = (j : Int) := ⟨k.toNat, by omega⟩
        have hj : j < ns.length := by omega
        exact ⟨ns[j], atI_nat (by rw [List.getElem?_map, List.getElem?_eq_getElem hj]; rfl)⟩
      walk_at "st"
      refine w_ix_f ha ?_
      walk_at "s1"
      walk_at "s1"
      walk_at "s1"
      exact pool_end k0 k1 h rfl
    · refine w_iteF (decide_eq_false hk) ?_
      walk_at "s1"
      walk_at "s1"
      exact pool_end k0 k1 h rfl
  · exact h.elim
theorem ok_L_pool (T : Tx P K mg) : FnG P w K mg base 1 T.f_L_pool T.d_L_pool ["_law_script", "_law_k"] (spD K sp_L_pool) := by
  exact fnG_of (k := 0) (t := t_L_pool) T.F_L_pool sc_L_pool len_L_pool
    (fun cdv A outer s H hr => pds_cons (pds_set (i := 2) sc_L_pool.nd rfl (.inl rfl) (pd_int)) (pds_cons (pds_if (pdt_cmp op_lt opd_lt (pd_var 1) (pd_callB call_len cal_len rfl T.n_len (by decide +kernel) (pda_cons (pd_var 0) (pda_nil)))) (pds_one (pds_set (i := 2) sc_L_pool.nd rfl (.inl rfl) (pd_ix ix_seq opd_ix (pd_var 0) (pd_var 1)))) (pds_nil)) (pds_cons (pds_set (i := 3) sc_L_pool.nd rfl (.inl rfl) (pd_op op_modN opd_mod (pd_op op_pow opd_pow (pd_op op_addD opd_add (pd_op op_addD opd_add (pd_op op_modN opd_mod (pd_var 2) (pd_int)) (pd_op op_mulA opd_mul (pd_op op_mulA opd_mul (pd_int) (pd_var 1)) (pd_var 1))) (pd_int)) (pd_int)) (pd_int))) (pds_cons (pds_if (pdt_cmp op_lt opd_lt (pd_var 2) (pd_op op_pow opd_pow (pd_int) (pd_int))) (pds_one (pds_set (i := 2) sc_L_pool.nd rfl (.inl rfl) (pd_int))) (pds_nil)) (pds_one (pds_ret (pd_lstM (pda_cons (pd_var 2) (pda_cons (pd_var 3) (pda_nil))))))))))
    sem_L_pool
/-! L_take -/
def sp_L_take : FS := fun ds ms P => match ds with
  | [.opq (.ref p), .int m] => PoolAt ms p ∧ 0 < m ∧ m ≤ 1000000000 ∧ ∀ r, 0 ≤ r → r < m → ∀ ms', Chg ms p ms' → P (.int r) ms'
  | _ => False
theorem len_L_take : ∀ ds ms Q, sp_L_take ds ms Q → ds.length = 2 := fun ds ms Q h => by
  unfold sp_L_take at h
  split at h <;> first | rfl | exact h.elim
def t_L_take : DTS := dSeq (dIfS (dTest (dOp fGt (dOp fIx (dVar 0) (dC (.int 0))) (dC (.int 0)))) (dSeq (dAsg (dOp fMod (dOp fIx (dVar 0) (dC (.int 0))) (dVar 1)) (sName 2)) (dSeq (dSetIx (dVar 0) (dC (.int 0)) (dOp fDiv (dOp fIx (dVar 0) (dC (.int 0))) (dVar 1))) (dRet (dVar 2)))) (dNext)) (dSeq (dSetIx (dVar 0) (dC (.int 1)) (dOp fMod (dOp fAdd (dOp fMul (dOp fIx (dVar 0) (dC (.int 1))) (dC (.int 48271))) (dC (.int 11))) (dC (.int 2147483647)))) (dRet (dOp fMod (dOp fDiv (dOp fMod (dOp fMul (dOp fIx (dVar 0) (dC (.int 1))) (dOp fIx (dVar 0) (dC (.int 1)))) (dC (.int 2147483629))) (dC (.int 64))) (dVar 1))))
theorem sem_L_take : ∀ ds ms Q, sp_L_take ds ms Q → t_L_take { nx := fun _ m => Q .non m, rt := Q } (startD 3 ds) ms := by
  intro ds ms Q h
  unfold sp_L_take at h
  split at h
  · rename_i p m
    obtain ⟨⟨a, b, ⟨a0, b0, b1⟩, e⟩, m0, m1, h⟩ := h
    unfold t_L_take
    walk_at "dl"
    simp only [fIx, asL, e, atI_0, atI_1]
    have hm : CDivA a m := ⟨by omega, Nat.lt_of_lt_of_le (Bd.log (n := 30) (x := m) (by unfold Bd; omega) (by decide)) (by decide)⟩
    have i0 : ixN ([D.int a, D.int b].length) 0 = some 0 := rfl
    have i1 : ixN ([D.int a, D.int b].length) 1 = some 1 := rfl
    have s0 : ∀ x : D, [D.int a, D.int b].set 0 x = [x, D.int b] := fun _ => rfl
    have s1 : ∀ x : D, [D.int a, D.int b].set 1 x = [D.int a, x] := fun _ => rfl
    by_cases ha : 0 < a
    · rw [if_pos ha]
      simp only [i0, s0]
      refine ⟨by omega, hm, h _ (Int.fmod_nonneg_of_pos _ m0) (Int.fmod_lt_of_pos _ m0) _ ⟨_, _, ⟨?_, b0, b1⟩, rfl⟩⟩
      rw [Int.fdiv_eq_ediv_of_nonneg _ (by omega)]
      exact Int.ediv_nonneg a0 (by omega)
    · rw [if_neg ha]
      simp only [i1, s1, look_put_same e, atI_1]
      have f0 := Int.fmod_nonneg_of_pos (b * 48271 + 11) (show (0 : Int) < 2147483647 by decide)
      have f1 := Int.fmod_lt_of_pos (b * 48271 + 11) (show (0 : Int) < 2147483647 by decide)
      refine ⟨.inr (.inr ⟨by decide, by decide⟩), by decide, .inr (.inl ⟨by omega, by omega⟩), by decide, ⟨by decide, by decide⟩, by omega, h _ (Int.fmod_nonneg_of_pos _ m0) (Int.fmod_lt_of_pos _ m0) _ ⟨_, _, ⟨a0, f0, f1⟩, rfl⟩⟩
  · exact h.elim
theorem ok_L_take (T : Tx P K mg) : FnG P w K mg base 1 T.f_L_take T.d_L_take ["_law_pool_here", "_law_many"] (spD K sp_L_take) := by
  exact fnG_of (k := 0) (t := t_L_take) T.F_L_take sc_L_take len_L_take
    (fun cdv A outer s H hr => pds_cons (pds_if (pdt_cmp op_gt opd_gt (pd_ix ix_seq opd_ix (pd_var 0) (pd_int)) (pd_int)) (pds_cons (pds_set (i := 2) sc_L_take.nd rfl (.inl rfl) (pd_op op_modN opd_mod (pd_ix ix_seq opd_ix (pd_var 0) (pd_int)) (pd_var 1))) (pds_cons (pds_setIx (pd_op op_fdivA opd_div (pd_ix ix_seq opd_ix (pd_var 0) (pd_int)) (pd_var 1)) (pd_var 0) (pd_int)) (pds_one (pds_ret (pd_var 2))))) (pds_nil)) (pds_cons (pds_setIx (pd_op op_modN opd_mod (pd_op op_addD opd_add (pd_op op_mulA opd_mul (pd_ix ix_seq opd_ix (pd_var 0) (pd_int)) (pd_int)) (pd_int)) (pd_int)) (pd_var 0) (pd_int)) (pds_one (pds_ret (pd_op op_modN opd_mod (pd_op op_fdivA opd_div (pd_op op_modN opd_mod (pd_op op_mulA opd_mul (pd_ix ix_seq opd_ix (pd_var 0) (pd_int)) (pd_ix ix_seq opd_ix (pd_var 0) (pd_int))) (pd_int)) (pd_int)) (pd_var 1))))))
    sem_L_take
theorem PoolAt.mem {ms : MS} {p : Addr} (h : PoolAt ms p) : ∃ e ∈ ms, e.1 = p := by
  obtain ⟨a, b, _, e⟩ := h
  exact ⟨_, look_mem e, rfl⟩
theorem chg_look {ms ms' : MS} {p q : Addr} {xs : List D} (c : Chg ms p ms') (h : look ms q = some xs) (hpq : p ≠ q) : look ms' q = some xs := by
  obtain ⟨a, b, _, rfl⟩ := c
  unfold pu
  rw [look_put_ne hpq]
  exact h
/-- the pool at p, and a list that is being made at q -/
structure PL (ms : MS) (p q : Addr) (xs : List D) : Prop where
  po : PoolAt ms p
  lk : look ms q = some xs
  ne : p ≠ q
theorem PL.new {ms : MS} {p q : Addr} {xs : List D} (h : PoolAt ms p) (hq : ∀ e ∈ ms, e.1 ≠ q) : PL ((q, xs) :: ms) p q xs := by
  obtain ⟨e, he, z⟩ := h.mem
  have hne : p ≠ q := z ▸ hq e he
  obtain ⟨a, b, o, l⟩ := h
  exact ⟨⟨a, b, o, by unfold look; rw [if_neg hne.symm]; exact l⟩, look_new, hne⟩
theorem PL.chg {ms ms' : MS} {p q : Addr} {xs : List D} (h : PL ms p q xs) (c : Chg ms p ms') : PL ms' p q xs := ⟨h.po.chg c, chg_look c h.lk h.ne, h.ne⟩
theorem PL.put {ms : MS} {p q : Addr} {xs ys : List D} (h : PL ms p q xs) : PL (put ms q ys) p q ys := by
  obtain ⟨⟨a, b, o, l⟩, k, n⟩ := h
  exact ⟨⟨a, b, o, by rw [look_put_ne n.symm]; exact l⟩, look_put_same k, n⟩
/-- how many cells are gone through -/
theorem cells_le (N : Int) (h : 1 ≤ N) (y : Nat) : 0 ≤ (if (if N < (y : Int) then N else (y : Int)) > 1 then if N < (y : Int) then N else (y : Int) else 1) ∧ (if (if N < (y : Int) then N else (y : Int)) > 1 then if N < (y : Int) then N else (y : Int) else 1) ≤ N := by
  split
  · split <;> omega
  · omega
theorem take_step {ms : MS} {p : Addr} {m : Int} {P : D → MS → Prop} (h : PoolAt ms p) (m0 : 0 < m) (m1 : m ≤ 1000000000) (q : ∀ r, 0 ≤ r → r < m → ∀ ms', PoolAt ms' p → Chg ms p ms' → P (.int r) ms') : sp_L_take [.opq (.ref p), .int m] ms P :=
  ⟨h, m0, m1, fun r h0 h1 ms' c => q r h0 h1 ms' (h.chg c) c⟩
theorem comp_pool {g : DG} {te : DE} {ds : DS} {p : Addr} {Good : D → Prop} : ∀ (xs acc : List D) (ms : MS) (P : List D → MS → Prop), PoolAt ms p → acc.length + xs.length ≤ 1000000 →
    (∀ x ∈ xs, ∀ m, PoolAt m p → ∀ P0 : D → MS → Prop, (∀ d m', Good d → PoolAt m' p → Chg m p m' → P0 d m') → g x ds fun ds2 => te ds2 m P0) →
    (∀ ys m', ys.length = xs.length → (∀ y ∈ ys, Good y) → PoolAt m' p → Chg ms p m' → P (acc ++ ys) m') → compD g dYes te ds xs acc ms P
  | [], acc, ms, P, hp, _, _, h => by
    have := h [] ms rfl (fun y hy => by cases hy) hp hp.refl
    rw [List.append_nil] at this
    exact this
  | x :: r, acc, ms, P, hp, hl, t, h => by
    rw [List.length_cons] at hl
    unfold compD
    simp only [dYes, if_true]
    refine t x List.mem_cons_self ms hp _ fun d m' gd hp' c => ⟨Nat.lt_of_lt_of_le (by omega : acc.length < 1000001) (by decide), comp_pool r _ m' P hp' (by rw [List.length_append, List.length_singleton]; omega) (fun y hy => t y (List.mem_cons_of_mem _ hy)) fun ys m2 l2 g2 p2 c2 => ?_⟩
    rw [List.append_assoc]
    exact h (d :: ys) m2 (by rw [List.length_cons, List.length_cons, l2]) (fun y hy => by
      rcases List.mem_cons.mp hy with rfl | hy
      · exact gd
      · exact g2 y hy) p2 (c.trans c2)
/-! the pool behind a list that is being made -/
theorem PoolAt.cons {m : MS} {p q : Addr} {xs : List D} (h : PoolAt m p) (hne : p ≠ q) : PoolAt ((q, xs) :: m) p := by
  obtain ⟨a, b, o, l⟩ := h
  exact ⟨a, b, o, by unfold look; rw [if_neg hne.symm]; exact l⟩
theorem PoolAt.tail {m : MS} {p q : Addr} {xs : List D} (h : PoolAt ((q, xs) :: m) p) (hne : p ≠ q) : PoolAt m p := by
  obtain ⟨a, b, o, l⟩ := h
  unfold look at l
  rw [if_neg hne.symm] at l
  exact ⟨a, b, o, l⟩
theorem chg_cons {m m1 : MS} {p q : Addr} {xs : List D} (hne : p ≠ q) (c : Chg ((q, xs) :: m) p m1) : ∃ m', m1 = (q, xs) :: m' ∧ Chg m p m' := by
  obtain ⟨a, b, o, rfl⟩ := c
  refine ⟨pu m p a b, ?_, a, b, o, rfl⟩
  unfold pu
  conv => lhs; unfold put
  rw [if_neg hne.symm]
theorem take_stepC {m : MS} {p q : Addr} {xs : List D} {n : Int} {P : D → MS → Prop} (hne : p ≠ q) (h : PoolAt m p) (m0 : 0 < n) (m1 : n ≤ 1000000000) (k : ∀ r, 0 ≤ r → r < n → ∀ m', PoolAt m' p → Chg m p m' → P (.int r) ((q, xs) :: m')) : sp_L_take [.opq (.ref p), .int n] ((q, xs) :: m) P :=
  take_step (h.cons hne) m0 m1 fun r h0 h1 m2 p2 c2 => by
    obtain ⟨m', rfl, c'⟩ := chg_cons hne c2
    exact k r h0 h1 m' (p2.tail hne) c'
theorem PoolAt.ne {m : MS} {p q : Addr} (h : PoolAt m p) (hq : ∀ e ∈ m, e.1 ≠ q) : p ≠ q := by
  obtain ⟨e, he, z⟩ := h.mem
  exact z ▸ hq e he
theorem put_in : ∀ {ms : MS} {p : Addr} {ys : List D} {q : Addr × List D}, q ∈ put ms p ys → q ∈ ms ∨ q.2 = ys
  | [], _, _, _, h => by cases h
  | (r, zs) :: ms, p, ys, q, h => by
    unfold put at h
    split at h
    · rcases List.mem_cons.mp h with rfl | h
      · exact .inr rfl
      · exact .inl (List.mem_cons_of_mem _ h)
    · rcases List.mem_cons.mp h with rfl | h
      · exact .inl List.mem_cons_self
      · rcases put_in h with h | h
        · exact .inl (List.mem_cons_of_mem _ h)
        · exact .inr h
theorem flatM_chg {ms m1 : MS} {p : Addr} (h : flatM ms) (c : Chg ms p m1) : flatM m1 := by
  obtain ⟨a, b, _, rfl⟩ := c
  intro q hq
  rcases put_in hq with hq | hq
  · exact h q hq
  · rw [hq]; rfl
theorem flatM_cons {ms : MS} {p : Addr} {xs : List D} (h : flatM ms) (hx : flats xs = true) : flatM ((p, xs) :: ms) := fun q hq => by
  rcases List.mem_cons.mp hq with rfl | hq
  · exact hx
  · exact h q hq
theorem flats_ints : ∀ is : List Int, flats (is.map D.int) = true
  | [] => rfl
  | _ :: r => flats_ints r
/-- a loop whose turns are counted -/
theorem loop_n {g : DG} {tb : DTS} {E : EN} (I : Nat → DS → MS → Prop) (K : Nat) : ∀ (xs : List D) (k : Nat) (ds : DS) (ms : MS), k + xs.length ≤ K → I k ds ms →
    (∀ x ∈ xs, ∀ k ds ms, k < K → I k ds ms → ∀ N : DS → MS → Prop, (∀ ds' ms', I (k + 1) ds' ms' → N ds' ms') → g x ds fun ds1 => tb (EN.lp E N) ds1 ms) →
    (∀ ds ms, I (k + xs.length) ds ms → E.nx ds ms) → loopD g tb E xs ds ms
  | [], k, ds, ms, _, h, _, q => q ds ms h
  | x :: r, k, ds, ms, hK, h, t, q => t x List.mem_cons_self k ds ms (by rw [List.length_cons] at hK; omega) h _ fun ds' ms' h' => loop_n I K r (k + 1) ds' ms' (by rw [List.length_cons] at hK; omega) h' (fun y hy => t y (List.mem_cons_of_mem _ hy)) fun ds2 ms2 h2 => q ds2 ms2 (by rw [List.length_cons]; rwa [Nat.add_right_comm, Nat.add_assoc] at h2)
theorem set_ints {B : Nat} {is : List Int} {v : Int} (j : Nat) (h : ∀ i ∈ is, Bd B i) (hv : Bd B v) : ∀ i ∈ is.set j v, Bd B i := fun i hi => by
  rcases List.mem_or_eq_of_mem_set hi with z | z
  · exact h i z
  · exact z ▸ hv
theorem map_set_int (is : List Int) (j : Nat) (v : Int) : (is.map D.int).set j (.int v) = (is.set j v).map D.int := by rw [List.map_set]
theorem ixN_ok {n : Nat} {i : Int} (h0 : 0 ≤ i) (h1 : i < (n : Int)) : ixN n i = some i.toNat := by
  unfold ixN
  rw [if_pos h0, if_pos h1]
theorem atI_ints {is : List Int} {i : Int} (h0 : 0 ≤ i) (h1 : i < (is.length : Int)) : ∃ v, atI (is.map D.int) i = some (.int v) ∧ v ∈ is := by
  obtain ⟨j, rfl⟩ : ∃ j : Nat, i = (j : Int) := ⟨i.toNat, by omega⟩
  have hj : j < is.length := by omega
  exact ⟨is[j], atI_nat (by rw [List.getElem?_map, List.getElem?_eq_getElem hj]; rfl), List.getElem_mem hj⟩
theorem word_of3 {a b c : D} {d : D} (h : d ∈ [a, b, c]) (ha : ∃ j, a = wdD j) (hb : ∃ j, b = wdD j) (hc : ∃ j, c = wdD j) : ∃ j, d = wdD j := by
  simp only [List.mem_cons, List.not_mem_nil, or_false] at h
  rcases h with rfl | rfl | rfl
  · exact ha
  · exact hb
  · exact hc
theorem look_2 {p q : Addr} {xs ys : List D} {m : MS} (h : p ≠ q) : look ((q, xs) :: (p, ys) :: m) p = some ys := by
  unfold look
  rw [if_neg (fun z => h z.symm)]
  exact look_new
theorem wd_l : ∃ j, D.str "least" = wdD j := ⟨false, rfl⟩
theorem wd_j : ∃ j, D.str "just" = wdD j := ⟨true, rfl⟩
theorem line_cons {B : Nat} {is : List Int} {n : Nat} (hl : is.length = n + 1) (hb : ∀ i ∈ is, Bd B i) (j : Bool) : ∃ w : Wi, D.tup [wdD j, .lst (is.map D.int)] = wiD w ∧ WiOk B n w := by
  cases is with
  | nil => cases hl
  | cons l fs => exact ⟨⟨j, l, fs⟩, rfl, hb, by rw [List.length_cons] at hl; exact Nat.succ.inj hl⟩
theorem nm_xyz {n : Nat} (h1 : 1 ≤ n) (h3 : n ≤ 3) : NmOk 3 ((["x", "y", "z"] : List Str).take n) := by
  have : n = 1 ∨ n = 2 ∨ n = 3 := by omega
  rcases this with rfl | rfl | rfl <;> exact ⟨by decide, by decide, by decide +kernel, by decide +kernel⟩
theorem nm_abc {n : Nat} (h1 : 1 ≤ n) (h3 : n ≤ 6) : NmOk 6 ((["a", "b", "c", "d", "e", "f"] : List Str).take n) := by
  have : n = 1 ∨ n = 2 ∨ n = 3 ∨ n = 4 ∨ n = 5 ∨ n = 6 := by omega
  rcases this with rfl | rfl | rfl | rfl | rfl | rfl <;> exact ⟨by decide, by decide, by decide +kernel, by decide +kernel⟩
theorem maps_of {α : Type} {f : α → D} {ok : α → Prop} : ∀ ys : List D, (∀ y ∈ ys, ∃ a, y = f a ∧ ok a) → ∃ as : List α, ys = as.map f ∧ ∀ a ∈ as, ok a
  | [], _ => ⟨[], rfl, fun _ h => by cases h⟩
  | y :: r, h => by
    obtain ⟨a, rfl, ha⟩ := h y List.mem_cons_self
    obtain ⟨as, e, ho⟩ := maps_of r fun z hz => h z (List.mem_cons_of_mem _ hz)
    refine ⟨a :: as, by rw [e]; rfl, fun z hz => ?_⟩
    rcases List.mem_cons.mp hz with hz | hz
    · exact hz ▸ ha
    · exact ho z hz
/-- a loop over range(n), by its number -/
theorem loop_r {g : DG} {tb : DTS} {E : EN} (I : Nat → DS → MS → Prop) (n : Nat) : ∀ (m k : Nat), k + m = n → ∀ (ds : DS) (ms : MS), I k ds ms →
    (∀ k ds ms, k < n → I k ds ms → ∀ N : DS → MS → Prop, (∀ ds' ms', I (k + 1) ds' ms' → N ds' ms') → g (.int (0 + (k : Nat))) ds fun ds1 => tb (EN.lp E N) ds1 ms) →
    (∀ ds ms, I n ds ms → E.nx ds ms) → loopD g tb E ((List.range' k m).map fun i => D.int (0 + (i : Nat))) ds ms
  | 0, k, hk, ds, ms, h, _, q => q ds ms (by rw [← hk]; exact h)
  | m + 1, k, hk, ds, ms, h, t, q => t k ds ms (by omega) h _ fun ds' ms' h' => loop_r I n m (k + 1) (by omega) ds' ms' h' t q
theorem loop_rng {g : DG} {tb : DTS} {E : EN} (I : Nat → DS → MS → Prop) (n : Nat) {ds : DS} {ms : MS} (h : I 0 ds ms)
    (t : ∀ k ds ms, k < n → I k ds ms → ∀ N : DS → MS → Prop, (∀ ds' ms', I (k + 1) ds' ms' → N ds' ms') → g (.int (0 + (k : Nat))) ds fun ds1 => tb (EN.lp E N) ds1 ms)
    (q : ∀ ds ms, I n ds ms → E.nx ds ms) : loopD g tb E (rng 0 n) ds ms := by
  unfold rng
  rw [List.range_eq_range']
  exact loop_r I n n 0 (Nat.zero_add n) ds ms h t q

/-! L_line -/
def sp_L_line : FS := fun ds ms P => match ds with
  | [.opq (.ref p), .int m, .int far] => PoolAt ms p ∧ 0 ≤ m ∧ m ≤ 8 ∧ 0 ≤ far ∧ far ≤ 15 ∧ ∀ is : List Int, (is.length : Int) = m + 1 → (∀ i ∈ is, Bd 4 i) → ∀ ms', PoolAt ms' p → Chg ms p ms' → ∀ q, (∀ e ∈ ms', e.1 ≠ q) → P (.opq (.ref q)) ((q, is.map D.int) :: ms')
  | _ => False
theorem len_L_line : ∀ ds ms Q, sp_L_line ds ms Q → ds.length = 3 := fun ds ms Q h => by
  unfold sp_L_line at h
  split at h <;> first | rfl | exact h.elim
def t_L_line : DTS := dRet (dLcM (iRange1 (aCons (dOp fAdd (dVar 1) (dC (.int 1))) (aNil))) (sName 3) (dYes) (dOp fSub (dCall 2 0 [0, 1] sp_L_take (aCons (dVar 0) (aCons (dOp fAdd (dOp fMul (dC (.int 2)) (dVar 2)) (dC (.int 1))) (aNil))) (aNil)) (dVar 2)) [3])
theorem sem_L_line : ∀ ds ms Q, sp_L_line ds ms Q → t_L_line { nx := fun _ m => Q .non m, rt := Q } (startD 4 ds) ms := by
  intro ds ms Q h
  unfold sp_L_line at h
  split at h
  · rename_i p m far
    obtain ⟨hp, m0, m8, f0, f15, h⟩ := h
    simp only [startD]
    unfold t_L_line
    walk_at "st"
    refine w_mRng ⟨by omega, by omega⟩ ?_
    simp only [wipeD, List.set]
    refine comp_pool (p := p) (Good := fun d => ∃ i, d = .int i ∧ Bd 4 i) _ [] ms _ hp ?_ ?_ ?_
    · rw [rng_len, List.length_nil]; omega
    · intro x hx m1 hm P0 q
      walk_at "st"
      refine ⟨.inr (.inr ⟨by omega, by omega⟩), ?_⟩
      walk_at "st"
      refine take_step hm (by omega) (by omega) fun r a1 b1 m2 p2 c2 => ?_
      walk_at "st"
      exact q _ _ ⟨_, rfl, by unfold Bd; omega⟩ p2 c2
    · intro ys m1 hl hg p1 c1
      rw [List.nil_append]
      rw [rng_len] at hl
      obtain ⟨is, rfl, hi, _⟩ := ints_of _ hg
      rw [List.length_map] at hl
      intro q hq
      walk_at "st"
      exact h is (by omega) hi m1 p1 c1 q hq
  · exact h.elim
theorem ok_L_line (T : Tx P K mg) : FnG P w K mg base 2 T.f_L_line T.d_L_line ["_law_pool_here", "_law_many", "_law_far"] (spD K sp_L_line) := by
  have G_L_take := ok_L_take (P := P) (w := w) (base := base) T
  exact fnG_of (k := 1) (t := t_L_line) T.F_L_line sc_L_line len_L_line
    (fun cdv A outer s H hr => pds_one (pds_ret (pd_lcM (own := [("_law_k", 3)]) rfl sc_L_line.nd (pdi_range1 rfl T.n_range (pda_cons (pd_op op_addD opd_add (pd_var 1) (pd_int)) (pda_nil))) (blkOk_by (own := [("_law_k", 3)]) (by kernel_rfl)) (fun _ _ _ _ _ => pg_name (i := 3) sc_L_line.nd rfl (by first | exact .inl rfl | exact .inr rfl)) (tg_name (i := 3) (by decide)) (mon_name (i := 3)) (fun _ _ _ _ _ => pdts_nil) (fun _ _ _ _ _ => pd_op op_sub opd_sub (pd_call G_L_take (hr.mono (by decide)) rfl T.g_L_take T.F_L_take.kp T.b_L_take_2 (pda_cons (pd_var 0) (pda_cons (pd_op op_addD opd_add (pd_op op_mulA opd_mul (pd_int) (pd_var 2)) (pd_int)) (pda_nil)))) (pd_var 2)))))
    sem_L_line
/-! L_low -/
def sp_L_low : FS := fun ds ms P => match ds with
  | [.int a, .int b] => b ≠ 0 ∧ Bd 8000 b ∧ P (fr (lowT a b)) ms
  | _ => False
theorem len_L_low : ∀ ds ms Q, sp_L_low ds ms Q → ds.length = 2 := fun ds ms Q h => by
  unfold sp_L_low at h
  split at h <;> first | rfl | exact h.elim
def t_L_low : DTS := dSeq (dAsg (dCB cAbs (aCons (dVar 0) (aNil))) (sName 2)) (dSeq (dAsg (dCB cAbs (aCons (dVar 1) (aNil))) (sName 3)) (dSeq (dWhile (dTest (dOp fGt (dVar 3) (dC (.int 0)))) (dPar 2 3 (aCons (dVar 3) (aCons (dOp fMod (dVar 2) (dVar 3)) (aNil))))) (dSeq (dIfS (dTest (dOp fLt (dVar 1) (dC (.int 0)))) (dAsg (dOp fSub (dC (.int 0)) (dVar 2)) (sName 2)) (dNext)) (dRet (dTup (aCons (dOp fDiv (dVar 0) (dVar 2)) (aCons (dOp fDiv (dVar 1) (dVar 2)) (aNil))))))))
theorem loop_low {E : EN} {ms : MS} {x y : Option D} : ∀ (n : Nat) (a b : Int), b.toNat < n → 0 ≤ a → 0 ≤ b → (∀ g : Int, g = (Int.gcd a b : Int) → E.nx [x, y, some (.int g), some (.int 0)] ms) →
    whileD (dTest (dOp fGt (dVar 3) (dC (.int 0)))) (dPar 2 3 (aCons (dVar 3) (aCons (dOp fMod (dVar 2) (dVar 3)) aNil))) E n [x, y, some (.int a), some (.int b)] ms := by
  intro n
  induction n with
  | zero => intro a b h; omega
  | succ n ih =>
    intro a b h ha hb q
    unfold whileD
    walk_at "dl"
    by_cases h0 : b = 0
    · subst h0
      rw [if_neg (by omega)]
      refine q a ?_
      rw [Int.gcd_zero_right]
      omega
    · rw [if_pos (by omega)]
      have h1 := Int.fmod_nonneg_of_pos a (show 0 < b by omega)
      have h2 := Int.fmod_lt_of_pos a (show 0 < b by omega)
      refine ⟨h0, ih b (a.fmod b) (by omega) hb h1 fun g hg => q g ?_⟩
      rw [hg, gcd_fmod]
theorem sem_L_low : ∀ ds ms Q, sp_L_low ds ms Q → t_L_low { nx := fun _ m => Q .non m, rt := Q } (startD 4 ds) ms := by
  intro ds ms Q h
  unfold sp_L_low at h
  split at h
  · rename_i a b
    obtain ⟨h0, hb, h⟩ := h
    unfold t_L_low
    walk_at "dl"
    have ea : (if a < 0 then -a else a) = (a.natAbs : Int) := by split <;> omega
    have eb : (if b < 0 then -b else b) = (b.natAbs : Int) := by split <;> omega
    rw [ea, eb]
    refine ⟨b.natAbs + 1, loop_low _ _ _ (by omega) (by omega) (by omega) fun g hg => ?_⟩
    have hg2 : g = (Int.gcd a b : Int) := by rw [hg]; rfl
    subst hg2
    walk_at "dl"
    have hd := fun x => sgcd_ok (a := a) h0 hb (by decide) (by decide) x
    have e : fr (lowT a b) = .tup [.int (a.fdiv (sgcd a b)), .int (b.fdiv (sgcd a b))] := rfl
    rw [e] at h
    unfold sgcd at hd h
    by_cases hn : b < 0
    · rw [if_pos hn] at hd h
      simp only [hn, if_true, Int.zero_sub]
      exact ⟨hd a, hd b, by decide, h⟩
    · rw [if_neg hn] at hd h
      simp only [hn, if_false]
      exact ⟨hd a, hd b, by decide, h⟩
  · exact h.elim
theorem ok_L_low (T : Tx P K mg) : FnG P w K mg base 1 T.f_L_low T.d_L_low ["_law_top", "_law_bottom"] (spD K sp_L_low) := by
  exact fnG_of (k := 0) (t := t_L_low) T.F_L_low sc_L_low len_L_low
    (fun cdv A outer s H hr => pds_cons (pds_set (i := 2) sc_L_low.nd rfl (.inl rfl) (pd_callB call_abs cal_abs rfl T.n_abs (by decide +kernel) (pda_cons (pd_var 0) (pda_nil)))) (pds_cons (pds_set (i := 3) sc_L_low.nd rfl (.inl rfl) (pd_callB call_abs cal_abs rfl T.n_abs (by decide +kernel) (pda_cons (pd_var 1) (pda_nil)))) (pds_cons (pds_while (pdt_cmp op_gt opd_gt (pd_var 3) (pd_int)) (pds_one (pds_par (i := 2) (j := 3) rfl sc_L_low.nd rfl rfl (by decide) rfl rfl (pda_cons (pd_var 3) (pda_cons (pd_op op_modN opd_mod (pd_var 2) (pd_var 3)) (pda_nil))) (by rfl)))) (pds_cons (pds_if (pdt_cmp op_lt opd_lt (pd_var 1) (pd_int)) (pds_one (pds_set (i := 2) sc_L_low.nd rfl (.inl rfl) (pd_op op_sub opd_sub (pd_int) (pd_var 2)))) (pds_nil)) (pds_one (pds_ret (pd_tup (pda_cons (pd_op op_fdivA opd_div (pd_var 0) (pd_var 2)) (pda_cons (pd_op op_fdivA opd_div (pd_var 1) (pd_var 2)) (pda_nil))))))))))
    sem_L_low
/-! L_sum -/
def sp_L_sum : FS := fun ds ms P => match ds with
  | [.tup [.int a, .int b], .tup [.int c, .int d]] => (b ≠ 0 ∧ d ≠ 0 ∧ Bd 4000 a ∧ Bd 4000 b ∧ Bd 4000 c ∧ Bd 4000 d) ∧ P (fr (addT (a, b) (c, d))) ms
  | _ => False
theorem len_L_sum : ∀ ds ms Q, sp_L_sum ds ms Q → ds.length = 2 := fun ds ms Q h => by
  unfold sp_L_sum at h
  split at h <;> first | rfl | exact h.elim
def t_L_sum : DTS := dRet (dCall 2 0 [0, 1] sp_L_low (aCons (dOp fAdd (dOp fMul (dOp fIx (dVar 0) (dC (.int 0))) (dOp fIx (dVar 1) (dC (.int 1)))) (dOp fMul (dOp fIx (dVar 1) (dC (.int 0))) (dOp fIx (dVar 0) (dC (.int 1))))) (aCons (dOp fMul (dOp fIx (dVar 0) (dC (.int 1))) (dOp fIx (dVar 1) (dC (.int 1)))) (aNil))) (aNil))
theorem sem_L_sum : ∀ ds ms Q, sp_L_sum ds ms Q → t_L_sum { nx := fun _ m => Q .non m, rt := Q } (startD 2 ds) ms := by
  intro ds ms Q h
  unfold sp_L_sum at h
  split at h
  · rename_i a b c d
    obtain ⟨⟨h1, h2, ha, hb, hc, hd⟩, h⟩ := h
    unfold t_L_sum
    walk_at "dl"
    simp only [fIx, atI_0, atI_1]
    unfold sp_L_low
    exact ⟨ha.mulOk hd (by decide) (by decide) (by decide), hc.mulOk hb (by decide) (by decide) (by decide), hb.mulOk hd (by decide) (by decide) (by decide), Int.mul_ne_zero h1 h2, hb.mul hd, h⟩
  · exact h.elim
theorem ok_L_sum (T : Tx P K mg) : FnG P w K mg base 2 T.f_L_sum T.d_L_sum ["_law_one", "_law_two"] (spD K sp_L_sum) := by
  have G_L_low := ok_L_low (P := P) (w := w) (base := base) T
  exact fnG_of (k := 1) (t := t_L_sum) T.F_L_sum sc_L_sum len_L_sum
    (fun cdv A outer s H hr => pds_one (pds_ret (pd_call G_L_low (hr.mono (by decide)) rfl T.g_L_low T.F_L_low.kp T.b_L_low_2 (pda_cons (pd_op op_addD opd_add (pd_op op_mulA opd_mul (pd_ix ix_seq opd_ix (pd_var 0) (pd_int)) (pd_ix ix_seq opd_ix (pd_var 1) (pd_int))) (pd_op op_mulA opd_mul (pd_ix ix_seq opd_ix (pd_var 1) (pd_int)) (pd_ix ix_seq opd_ix (pd_var 0) (pd_int)))) (pda_cons (pd_op op_mulA opd_mul (pd_ix ix_seq opd_ix (pd_var 0) (pd_int)) (pd_ix ix_seq opd_ix (pd_var 1) (pd_int))) (pda_nil))))))
    sem_L_sum
/-! L_product -/
def sp_L_product : FS := fun ds ms P => match ds with
  | [.tup [.int a, .int b], .tup [.int c, .int d]] => (b ≠ 0 ∧ d ≠ 0 ∧ Bd 4000 a ∧ Bd 4000 b ∧ Bd 4000 c ∧ Bd 4000 d) ∧ P (fr (mulT (a, b) (c, d))) ms
  | _ => False
theorem len_L_product : ∀ ds ms Q, sp_L_product ds ms Q → ds.length = 2 := fun ds ms Q h => by
  unfold sp_L_product at h
  split at h <;> first | rfl | exact h.elim
def t_L_product : DTS := dRet (dCall 2 0 [0, 1] sp_L_low (aCons (dOp fMul (dOp fIx (dVar 0) (dC (.int 0))) (dOp fIx (dVar 1) (dC (.int 0)))) (aCons (dOp fMul (dOp fIx (dVar 0) (dC (.int 1))) (dOp fIx (dVar 1) (dC (.int 1)))) (aNil))) (aNil))
theorem sem_L_product : ∀ ds ms Q, sp_L_product ds ms Q → t_L_product { nx := fun _ m => Q .non m, rt := Q } (startD 2 ds) ms := by
  intro ds ms Q h
  unfold sp_L_product at h
  split at h
  · rename_i a b c d
    obtain ⟨⟨h1, h2, ha, hb, hc, hd⟩, h⟩ := h
    unfold t_L_product
    walk_at "dl"
    simp only [fIx, atI_0, atI_1]
    unfold sp_L_low
    exact ⟨ha.mulOk hc (by decide) (by decide) (by decide), hb.mulOk hd (by decide) (by decide) (by decide), Int.mul_ne_zero h1 h2, hb.mul hd, h⟩
  · exact h.elim
theorem ok_L_product (T : Tx P K mg) : FnG P w K mg base 2 T.f_L_product T.d_L_product ["_law_one", "_law_two"] (spD K sp_L_product) := by
  have G_L_low := ok_L_low (P := P) (w := w) (base := base) T
  exact fnG_of (k := 1) (t := t_L_product) T.F_L_product sc_L_product len_L_product
    (fun cdv A outer s H hr => pds_one (pds_ret (pd_call G_L_low (hr.mono (by decide)) rfl T.g_L_low T.F_L_low.kp T.b_L_low_2 (pda_cons (pd_op op_mulA opd_mul (pd_ix ix_seq opd_ix (pd_var 0) (pd_int)) (pd_ix ix_seq opd_ix (pd_var 1) (pd_int))) (pda_cons (pd_op op_mulA opd_mul (pd_ix ix_seq opd_ix (pd_var 0) (pd_int)) (pd_ix ix_seq opd_ix (pd_var 1) (pd_int))) (pda_nil))))))
    sem_L_product
/-! L_worth -/
def sp_L_worth : FS := fun ds ms P => match ds with
  | [.lst xs, .lst ys] => ∃ l fs ns, xs = .int l :: fs.map D.int ∧ ys = ns.map fr ∧ FitG l fs ns ∧ P (fr (wor l fs ns)) ms
  | _ => False
theorem len_L_worth : ∀ ds ms Q, sp_L_worth ds ms Q → ds.length = 2 := fun ds ms Q h => by
  unfold sp_L_worth at h
  split at h <;> first | rfl | exact h.elim
def t_L_worth : DTS := dSeq (dAsg (dTup (aCons (dOp fIx (dVar 0) (dC (.int 0))) (aCons (dC (.int 1)) (aNil)))) (sName 2)) (dSeq (dFor (iZipD (aCons (dSl (dVar 0) (oSome (dC (.int 1))) (oNone)) (aCons (dVar 1) (aNil)))) (sTup 2 (sCons (sName 3) (sCons (sName 4) (sNil)))) (dAsg (dCall 2 0 [0, 1] sp_L_sum (aCons (dVar 2) (aCons (dCall 2 0 [0, 1] sp_L_product (aCons (dTup (aCons (dVar 3) (aCons (dC (.int 1)) (aNil)))) (aCons (dVar 4) (aNil))) (aNil)) (aNil))) (aNil)) (sName 2))) (dRet (dVar 2)))
theorem sem_L_worth : ∀ ds ms Q, sp_L_worth ds ms Q → t_L_worth { nx := fun _ m => Q .non m, rt := Q } (startD 5 ds) ms := by
  intro ds ms Q h
  unfold sp_L_worth at h
  split at h
  · obtain ⟨l, fs, ns, rfl, rfl, hF, h⟩ := h
    unfold t_L_worth
    walk_at "dl"
    simp only [fIx, asL, atI_0, fSl, cut_1]
    obtain ⟨L, N, h1, h2, h3, h4⟩ := hF.ex
    refine ⟨by decide, wor_step (L := L) (N := N) rfl (fun a b c d ms P h1 h2 h3 h4 h5 h6 q => ⟨⟨h1, h2, h3, h4, h5, h6⟩, q⟩) (fun a b c d ms P h1 h2 h3 h4 h5 h6 q => ⟨⟨h1, h2, h3, h4, h5, h6⟩, q⟩) fs ns (l, 1) (L + 1) 1 none none ((fb_int h1).mono (by omega) (Nat.le_refl _)) h2 h3 (by omega) (by omega) (by omega) fun x3 x4 => ?_⟩
    walk_at "dl"
    exact h
  · exact h.elim
theorem ok_L_worth (T : Tx P K mg) : FnG P w K mg base 3 T.f_L_worth T.d_L_worth ["_law_line_here", "_law_some"] (spD K sp_L_worth) := by
  have G_L_sum := ok_L_sum (P := P) (w := w) (base := base) T
  have G_L_product := ok_L_product (P := P) (w := w) (base := base) T
  exact fnG_of (k := 2) (t := t_L_worth) T.F_L_worth sc_L_worth len_L_worth
    (fun cdv A outer s H hr => pds_cons (pds_set (i := 2) sc_L_worth.nd rfl (.inl rfl) (pd_tup (pda_cons (pd_ix ix_seq opd_ix (pd_var 0) (pd_int)) (pda_cons (pd_int) (pda_nil))))) (pds_cons (pds_for (vs := [3, 4]) rfl (pdi_zip rfl T.n_zip (pda_cons (pd_slice (pd_var 0) (pdo_some (pd_int)) (pdo_none)) (pda_cons (pd_var 1) (pda_nil)))) (pg_tup rfl (pgs_cons (pg_name (i := 3) sc_L_worth.nd rfl (.inl rfl)) (pgs_cons (pg_name (i := 4) sc_L_worth.nd rfl (.inl rfl)) (pgs_nil)))) (tg_tup (tgs_cons (tg_name (i := 3) (by decide)) (tgs_cons (tg_name (i := 4) (by decide)) (tgs_nil) (mon_name (i := 4))) (mon_name (i := 3)))) (pds_one (pds_set (i := 2) sc_L_worth.nd rfl (.inl rfl) (pd_call G_L_sum (hr.mono (by decide)) rfl T.g_L_sum T.F_L_sum.kp T.b_L_sum_2 (pda_cons (pd_var 2) (pda_cons (pd_call G_L_product (hr.mono (by decide)) rfl T.g_L_product T.F_L_product.kp T.b_L_product_2 (pda_cons (pd_tup (pda_cons (pd_var 3) (pda_cons (pd_int) (pda_nil)))) (pda_cons (pd_var 4) (pda_nil)))) (pda_nil))))))) (pds_one (pds_ret (pd_var 2)))))
    sem_L_worth
/-! L_stop -/
structure Frs (n N M : Nat) (ss : List (Int × Int)) : Prop where
  ln : ss.length = n
  ok : ∀ s ∈ ss, Low s ∧ FB N M s
theorem Frs.mono {n N M N' M' : Nat} {ss : List (Int × Int)} (h : Frs n N M ss) (h1 : N ≤ N') (h2 : M ≤ M') : Frs n N' M' ss := ⟨h.ln, fun s hs => ⟨(h.ok s hs).1, (h.ok s hs).2.mono h1 h2⟩⟩
def sp_L_stop : FS := fun ds ms P => match ds with
  | [.opq (.ref p), .int n] => PoolAt ms p ∧ 0 ≤ n ∧ n ≤ 8 ∧ ∀ ss, Frs n.toNat 4 3 ss → ∀ ms', PoolAt ms' p → Chg ms p ms' → P (.lst (ss.map fr)) ms'
  | _ => False
theorem len_L_stop : ∀ ds ms Q, sp_L_stop ds ms Q → ds.length = 2 := fun ds ms Q h => by
  unfold sp_L_stop at h
  split at h <;> first | rfl | exact h.elim
def t_L_stop : DTS := dRet (dLc (iRange1 (aCons (dVar 1) (aNil))) (sName 2) (dYes) (dCall 2 0 [0, 1] sp_L_low (aCons (dOp fSub (dCall 2 0 [0, 1] sp_L_take (aCons (dVar 0) (aCons (dC (.int 9)) (aNil))) (aNil)) (dC (.int 4))) (aCons (dOp fAdd (dC (.int 1)) (dCall 2 0 [0, 1] sp_L_take (aCons (dVar 0) (aCons (dC (.int 2)) (aNil))) (aNil))) (aNil))) (aNil)) [2])
theorem sem_L_stop : ∀ ds ms Q, sp_L_stop ds ms Q → t_L_stop { nx := fun _ m => Q .non m, rt := Q } (startD 3 ds) ms := by
  intro ds ms Q h
  unfold sp_L_stop at h
  split at h
  · rename_i p n
    obtain ⟨hp, n0, n8, h⟩ := h
    simp only [startD]
    unfold t_L_stop
    walk_at "st"
    refine w_mRng ⟨by omega, by omega⟩ ?_
    simp only [wipeD, List.set]
    refine comp_pool (p := p) (Good := fun d => ∃ s : Int × Int, d = fr s ∧ (Low s ∧ FB 4 3 s)) _ [] ms _ hp (by rw [rng_len, List.length_nil]; omega) ?_ ?_
    · intro x hx m hm P0 q
      walk_at "st"
      refine take_step hm (by decide) (by decide) fun r3 a3 b3 m4 p4 c4 => ?_
      walk_at "st"
      refine take_step p4 (by decide) (by decide) fun r4 a4 b4 m5 p5 c5 => ?_
      walk_at "st"
      refine ⟨by omega, (show Bd 4 (1 + r4) by unfold Bd; omega).mono (by decide), ?_⟩
      exact q _ _ ⟨_, rfl, low_low (by omega), fb_low (n := 4) (m := 3) (by unfold Bd; omega) (by unfold Bd; omega) (by omega)⟩ p5 (c4.trans c5)
    · intro ys m4 hl4 hg4 p4 c4
      rw [rng_len] at hl4
      obtain ⟨ss, rfl, hs⟩ := maps_of ys hg4
      rw [List.length_map] at hl4
      rw [List.nil_append]
      walk_at "st"
      exact h ss ⟨hl4, hs⟩ m4 p4 c4
  · exact h.elim
theorem ok_L_stop (T : Tx P K mg) : FnG P w K mg base 2 T.f_L_stop T.d_L_stop ["_law_pool_here", "_law_size"] (spD K sp_L_stop) := by
  have G_L_low := ok_L_low (P := P) (w := w) (base := base) T
  have G_L_take := ok_L_take (P := P) (w := w) (base := base) T
  exact fnG_of (k := 1) (t := t_L_stop) T.F_L_stop sc_L_stop len_L_stop
    (fun cdv A outer s H hr => pds_one (pds_ret (pd_lc (own := [("_law_number", 2)]) rfl sc_L_stop.nd (pdi_range1 rfl T.n_range (pda_cons (pd_var 1) (pda_nil))) (blkOk_by (own := [("_law_number", 2)]) (by kernel_rfl)) (fun _ _ _ _ _ => pg_name (i := 2) sc_L_stop.nd rfl (by first | exact .inl rfl | exact .inr rfl)) (tg_name (i := 2) (by decide)) (mon_name (i := 2)) (fun _ _ _ _ _ => pdts_nil) (fun _ _ _ _ _ => pd_call G_L_low (hr.mono (by decide)) rfl T.g_L_low T.F_L_low.kp T.b_L_low_2 (pda_cons (pd_op op_sub opd_sub (pd_call G_L_take (hr.mono (by decide)) rfl T.g_L_take T.F_L_take.kp T.b_L_take_2 (pda_cons (pd_var 0) (pda_cons (pd_int) (pda_nil)))) (pd_int)) (pda_cons (pd_op op_addD opd_add (pd_int) (pd_call G_L_take (hr.mono (by decide)) rfl T.g_L_take T.F_L_take.kp T.b_L_take_2 (pda_cons (pd_var 0) (pda_cons (pd_int) (pda_nil))))) (pda_nil)))))))
    sem_L_stop
/-! L_all -/
def sp_L_all : FS := fun ds ms P => match ds with
  | [.lst xs, .lst ys] => ∃ (ss ts : List (Int × Int)), xs = ss.map fr ∧ ys = ts.map fr ∧ ss.length ≤ 100 ∧ (∀ s ∈ ss, FB 300 300 s) ∧ (∀ s ∈ ts, FB 300 300 s) ∧ P (.lst ((List.zipWith addT ss ts).map fr)) ms
  | _ => False
theorem len_L_all : ∀ ds ms Q, sp_L_all ds ms Q → ds.length = 2 := fun ds ms Q h => by
  unfold sp_L_all at h
  split at h <;> first | rfl | exact h.elim
def t_L_all : DTS := dRet (dLc (iZipD (aCons (dVar 0) (aCons (dVar 1) (aNil)))) (sTup 2 (sCons (sName 2) (sCons (sName 3) (sNil)))) (dYes) (dCall 2 0 [0, 1] sp_L_sum (aCons (dVar 2) (aCons (dVar 3) (aNil))) (aNil)) [2, 3])
theorem sem_L_all : ∀ ds ms Q, sp_L_all ds ms Q → t_L_all { nx := fun _ m => Q .non m, rt := Q } (startD 4 ds) ms := by
  intro ds ms Q h
  unfold sp_L_all at h
  split at h
  · obtain ⟨ss, ts, rfl, rfl, hl, h1, h2, h⟩ := h
    simp only [startD]
    unfold t_L_all
    walk_at "st"
    first | rw [zipD_mapsM] | rw [zipD_mp]
    simp only [wipeD, List.set]
    refine comp_e (fun q : (Int × Int) × (Int × Int) => D.tup [fr q.1, fr q.2]) (fun q => fr (addT q.1 q.2)) (ss.zip ts) [] _ (by rw [List.length_zip, List.length_nil]; omega) (fun q hq P0 q0 => ?_) ?_
    · have f1 := h1 _ (List.of_mem_zip hq).1
      have f2 := h2 _ (List.of_mem_zip hq).2
      unfold fr
      walk_at "st"
      exact ⟨⟨f1.ne, f2.ne, f1.top.mono (by decide), f1.bot.mono (by decide), f2.top.mono (by decide), f2.bot.mono (by decide)⟩, q0⟩
    · rw [List.nil_append]
      walk_at "st"
      have e : ∀ ss ts : List (Int × Int), (ss.zip ts).map (fun q => fr (addT q.1 q.2)) = (List.zipWith addT ss ts).map fr := by
        intro ss
        induction ss with
        | nil => intro ts; rfl
        | cons s r ih =>
          intro ts
          cases ts with
          | nil => rfl
          | cons t ts => rw [List.zip_cons_cons, List.map_cons, List.zipWith_cons_cons, List.map_cons, ih]
      rw [e]
      exact h
  · exact h.elim
theorem ok_L_all (T : Tx P K mg) : FnG P w K mg base 3 T.f_L_all T.d_L_all ["_law_one", "_law_two"] (spD K sp_L_all) := by
  have G_L_sum := ok_L_sum (P := P) (w := w) (base := base) T
  exact fnG_of (k := 2) (t := t_L_all) T.F_L_all sc_L_all len_L_all
    (fun cdv A outer s H hr => pds_one (pds_ret (pd_lc (own := [("_law_here", 2), ("_law_there", 3)]) rfl sc_L_all.nd (pdi_zip rfl T.n_zip (pda_cons (pd_var 0) (pda_cons (pd_var 1) (pda_nil)))) (blkOk_by (own := [("_law_here", 2), ("_law_there", 3)]) (by kernel_rfl)) (fun _ _ _ _ _ => pg_tup rfl (pgs_cons (pg_name (i := 2) sc_L_all.nd rfl (by first | exact .inl rfl | exact .inr rfl)) (pgs_cons (pg_name (i := 3) sc_L_all.nd rfl (by first | exact .inl rfl | exact .inr rfl)) (pgs_nil)))) (tg_tup (tgs_cons (tg_name (i := 2) (by decide)) (tgs_cons (tg_name (i := 3) (by decide)) (tgs_nil) (mon_name (i := 3))) (mon_name (i := 2)))) (mon_tup (mon_cons (mon_name (i := 2)) (mon_cons (mon_name (i := 3)) (mon_nil)))) (fun _ _ _ _ _ => pdts_nil) (fun _ _ _ _ _ => pd_call G_L_sum (hr.mono (by decide)) rfl T.g_L_sum T.F_L_sum.kp T.b_L_sum_2 (pda_cons (pd_var 2) (pda_cons (pd_var 3) (pda_nil)))))))
    sem_L_all
/-! L_bare -/
def sp_L_bare : FS := fun ds ms P => match ds with
  | [.opq (.ref p), .lst ys] => ∃ (l : Int) (fs : List Int) (ns : List (Int × Int)), look ms p = some (.int l :: fs.map D.int) ∧ ys = ns.map fr ∧ FitG 0 fs ns ∧ P (fr (wor 0 fs ns)) ms
  | [.lst xs, .lst ys] => ∃ (l : Int) (fs : List Int) (ns : List (Int × Int)), xs = .int l :: fs.map D.int ∧ ys = ns.map fr ∧ FitG 0 fs ns ∧ P (fr (wor 0 fs ns)) ms
  | _ => False
theorem len_L_bare : ∀ ds ms Q, sp_L_bare ds ms Q → ds.length = 2 := fun ds ms Q h => by
  unfold sp_L_bare at h
  split at h <;> first | rfl | exact h.elim
def t_L_bare : DTS := dRet (dCall 2 0 [0, 1] sp_L_worth (aCons (dOp fAdd (dLst (aCons (dC (.int 0)) (aNil))) (dSl (dVar 0) (oSome (dC (.int 1))) (oNone))) (aCons (dVar 1) (aNil))) (aNil))
theorem w_sl_o {p : Addr} {a : List D} {lo hi : Option Int} {ms : MS} {P : D → MS → Prop} (e : look ms p = some a) (h : P (.lst (cutL a lo hi)) ms) : fSl (.opq (.ref p)) lo hi ms P := by
  unfold fSl
  simp only [asL, e]
  exact h
theorem fit_small {fs : List Int} {ns : List (Int × Int)} (hf : ∀ f ∈ fs, Bd 4 f) (hn : ∀ s ∈ ns, FB 8 6 s) (hl : fs.length ≤ 6) : FitG 0 fs ns :=
  ⟨⟨4, 8, by unfold Bd; decide, hf, fun s h => (hn s h).mono (by decide) (by decide), by omega⟩, by omega⟩
theorem sem_L_bare : ∀ ds ms Q, sp_L_bare ds ms Q → t_L_bare { nx := fun _ m => Q .non m, rt := Q } (startD 2 ds) ms := by
  intro ds ms Q h
  unfold sp_L_bare at h
  split at h
  · obtain ⟨l, fs, ns, hlk, rfl, hF, h⟩ := h
    have h8 := hF.len
    simp only [startD]
    unfold t_L_bare
    walk_at "st"
    refine w_sl_o hlk ?_
    rw [cut_1]
    walk_at "st"
    refine ⟨size_ok (by rw [List.length_map, List.length_singleton]; omega), ?_⟩
    walk_at "st"
    exact ⟨0, fs, ns, rfl, rfl, hF, h⟩
  · obtain ⟨l, fs, ns, rfl, rfl, hF, h⟩ := h
    have h8 := hF.len
    simp only [startD]
    unfold t_L_bare
    walk_at "st"
    rw [cut_1]
    refine ⟨size_ok (by rw [List.length_map, List.length_singleton]; omega), ?_⟩
    walk_at "st"
    exact ⟨0, fs, ns, rfl, rfl, hF, h⟩
  · exact h.elim
theorem ok_L_bare (T : Tx P K mg) : FnG P w K mg base 4 T.f_L_bare T.d_L_bare ["_law_line_here", "_law_some"] (spD K sp_L_bare) := by
  have G_L_worth := ok_L_worth (P := P) (w := w) (base := base) T
  exact fnG_of (k := 3) (t := t_L_bare) T.F_L_bare sc_L_bare len_L_bare
    (fun cdv A outer s H hr => pds_one (pds_ret (pd_call G_L_worth (hr.mono (by decide)) rfl T.g_L_worth T.F_L_worth.kp T.b_L_worth_2 (pda_cons (pd_op op_addD opd_add (pd_lst (pda_cons (pd_int) (pda_nil))) (pd_slice (pd_var 0) (pdo_some (pd_int)) (pdo_none))) (pda_cons (pd_var 1) (pda_nil))))))
    sem_L_bare
/-! L_kept_wish -/
def sp_L_kept_wish : FS := fun ds ms P => match ds with
  | [.opq (.ref p), .int sz, .lst xs, .lst ys] => ∃ (n : Nat) (ss ts : List (Int × Int)), sz = (n : Int) ∧ 1 ≤ n ∧ n ≤ 3 ∧ xs = ss.map fr ∧ ys = ts.map fr ∧ Frs (2 * n) 8 6 ss ∧ Frs (2 * n) 8 6 ts ∧ PoolAt ms p ∧
      ∀ w, WiOk 200 (2 * n) w → Wan w (1, 1) ss → Wan w (0, 1) ts → ∀ ms', PoolAt ms' p → Chg ms p ms' → P (wiD w) ms'
  | _ => False
theorem len_L_kept_wish : ∀ ds ms Q, sp_L_kept_wish ds ms Q → ds.length = 4 := fun ds ms Q h => by
  unfold sp_L_kept_wish at h
  split at h <;> first | rfl | exact h.elim
def t_L_kept_wish_c2 : DTS := dSeq (dSetIx (dVar 4) (dC (.int 0)) (dOp fSub (dCall 2 0 [0, 1] sp_L_take (aCons (dVar 0) (aCons (dC (.int 2)) (aNil))) (aNil)) (dOp fDiv (dOp fIx (dVar 7) (dC (.int 0))) (dOp fIx (dVar 7) (dC (.int 1)))))) (dFrzS 4 (dAsg (dLcM (iSeq (dVar 4)) (sName 8) (dYes) (dOp fMul (dVar 8) (dOp fIx (dVar 7) (dC (.int 1)))) [8]) (sName 4)))
def t_L_kept_wish_c1 : DTS := dSeq (dAsg (dC (.str "least")) (sName 6)) (dSeq (dAsg (dCall 2 0 [0, 1] sp_L_bare (aCons (dVar 4) (aCons (dVar 2) (aNil))) (aNil)) (sName 7)) (dSeq (dIfS (dAnd (dTest (dOp fEq (dOp fIx (dVar 5) (dC (.int 0))) (dC (.int 0)))) (dAnd (dTest (dOp fEq (dOp fIx (dVar 7) (dC (.int 1))) (dC (.int 1)))) (dTest (dOp fEq (dCall 2 0 [0, 1] sp_L_take (aCons (dVar 0) (aCons (dC (.int 2)) (aNil))) (aNil)) (dC (.int 0)))))) (dSeq (dAsg (dC (.str "just")) (sName 6)) (dSetIx (dVar 4) (dC (.int 0)) (dOp fSub (dC (.int 0)) (dOp fIx (dVar 7) (dC (.int 0)))))) (t_L_kept_wish_c2)) (dRet (dTup (aCons (dVar 6) (aCons (dFrz (dVar 4)) (aNil)))))))
def t_L_kept_wish : DTS := dSeq (dAsg (dCall 3 0 [0, 1, 2] sp_L_line (aCons (dVar 0) (aCons (dOp fMul (dC (.int 2)) (dVar 1)) (aCons (dC (.int 2)) (aNil)))) (aNil)) (sName 4)) (dSeq (dAsg (dCall 2 0 [0, 1] sp_L_bare (aCons (dVar 4) (aCons (dVar 3) (aNil))) (aNil)) (sName 5)) (dSeq (dIfS (dTest (dOp fLt (dOp fIx (dVar 5) (dC (.int 0))) (dC (.int 0)))) (dFrzS 4 (dAsg (dLcM (iSeq (dVar 4)) (sName 8) (dYes) (dOp fSub (dC (.int 0)) (dVar 8)) [8]) (sName 4))) (dNext)) (t_L_kept_wish_c1)))
theorem fb_here {fs : List Int} {ns : List (Int × Int)} (hf : ∀ f ∈ fs, Bd 4 f) (hn : ∀ s ∈ ns, FB 8 6 s) (hl : fs.length ≤ 6) : FB 117 43 (wor 0 fs ns) :=
  (fb_worGo (L := 4) (a := 8) (b := 6) fs ns (0, 1) 21 1 ((fb_int (n := 21) (by unfold Bd; decide))) hf hn (by decide)).mono (by omega) (by omega)
theorem dtR_mul (k : Int) : ∀ (fs : List Int) (ns : List Rat), dtR (fs.map (· * k)) ns = (k : Rat) * dtR fs ns
  | [], _ => by rw [List.map_nil]; unfold dtR; grind
  | f :: fs, [] => by rw [List.map_cons]; unfold dtR; grind
  | f :: fs, n :: ns => by
    rw [List.map_cons]
    unfold dtR
    rw [dtR_mul k fs ns, Rat.intCast_mul]
    grind
theorem dtR_neg : ∀ (fs : List Int) (ns : List Rat), dtR (fs.map (0 - ·)) ns = - dtR fs ns
  | [], _ => by rw [List.map_nil]; unfold dtR; grind
  | f :: fs, [] => by rw [List.map_cons]; unfold dtR; grind
  | f :: fs, n :: ns => by
    rw [List.map_cons]
    unfold dtR
    rw [dtR_neg fs ns, Rat.intCast_sub, Rat.intCast_zero]
    grind
theorem val_bare {fs : List Int} {ns : List (Int × Int)} (hn : ∀ s ∈ ns, Low s) : Low (wor 0 fs ns) ∧ val (wor 0 fs ns) = dtR fs (ns.map val) := by
  obtain ⟨a, b⟩ := val_wgo fs ns (0, 1) (low_int 0) hn
  refine ⟨a, ?_⟩
  rw [show wor 0 fs ns = worGo (0, 1) fs ns from rfl, b, val_int, Rat.intCast_zero]
  grind
theorem frs_low {n N M : Nat} {ss : List (Int × Int)} (h : Frs n N M ss) : (∀ s ∈ ss, Low s) ∧ ∀ s ∈ ss, FB N M s := ⟨fun s hs => (h.ok s hs).1, fun s hs => (h.ok s hs).2⟩
/-- the floor is not above -/
theorem fdiv_small {a b : Int} (h : 0 < b) : (a.fdiv b).natAbs ≤ a.natAbs := by
  rw [Int.fdiv_eq_ediv_of_nonneg _ (by omega)]
  have h1 := Int.mul_ediv_add_emod a b
  have h2 := Int.emod_nonneg a (show b ≠ 0 by omega)
  have h3 := Int.emod_lt_of_pos a h
  by_cases ha : 0 ≤ a
  · have h4 := Int.ediv_nonneg ha (show 0 ≤ b by omega)
    have h5 := Int.ediv_le_self b ha
    omega
  · have h4 : a / b < 0 := Int.ediv_neg_of_neg_of_pos (by omega) h
    have h5 : a / b ≥ a := by
      have : b * (a / b) ≥ a - b + 1 := by omega
      refine Int.le_of_not_gt fun z => ?_
      have z1 : a / b ≤ a - 1 := by omega
      have z2 : b * (a / b) ≤ b * (a - 1) := Int.mul_le_mul_of_nonneg_left z1 (by omega)
      have z3 : b * (a - 1) = b * a - b := by rw [Int.mul_sub, Int.mul_one]
      have z4 : b * a ≤ 1 * a := Int.mul_le_mul_of_nonpos_right (by omega) (by omega)
      omega
    omega
theorem floor_le {h : Int × Int} (lo : Low h) : ((h.1.fdiv h.2 : Int) : Rat) ≤ val h := by
  have p := lo.pos
  rw [Int.fdiv_eq_ediv_of_nonneg _ (show 0 ≤ h.2 by omega)]
  have e := Int.ediv_mul_le h.1 (show h.2 ≠ 0 by omega)
  rw [← val_int]
  refine Rat.not_lt.mp fun z => ?_
  have z := (cross_lt (p := h) (q := (h.1 / h.2, 1)) p (show (0 : Int) < 1 by decide)).mp z
  have z : h.1 * 1 < h.1 / h.2 * h.2 := z
  omega
theorem wan_just {l : Int} {fs : List Int} {ss ts : List (Int × Int)} (h : Int × Int) (hv : val h = dtR fs (ss.map val)) (h2 : h.2 = 1) (hl : l = 0 - h.1) (dz : dtR fs (ts.map val) = 0) : Wan ⟨true, l, fs⟩ (1, 1) ss ∧ Wan ⟨true, l, fs⟩ (0, 1) ts := by
  have v1 : val h = (h.1 : Rat) := by unfold val; rw [h2]; exact val_int h.1
  have a : (l : Rat) * val (1, 1) + dtR fs (ss.map val) = 0 := by
    rw [val_int, ← hv, v1, hl, Rat.intCast_sub, Rat.intCast_zero, Rat.intCast_one]; grind
  have b : (l : Rat) * val (0, 1) + dtR fs (ts.map val) = 0 := by
    rw [val_int, dz, Rat.intCast_zero]; grind
  exact ⟨⟨by rw [show Wi.l ⟨true, l, fs⟩ = l from rfl, show Wi.fs ⟨true, l, fs⟩ = fs from rfl, a]; exact Rat.le_refl, fun _ => a⟩, ⟨by rw [show Wi.l ⟨true, l, fs⟩ = l from rfl, show Wi.fs ⟨true, l, fs⟩ = fs from rfl, b]; exact Rat.le_refl, fun _ => b⟩⟩
theorem wan_least {r : Int} {fs : List Int} {ss ts : List (Int × Int)} (h : Int × Int) (lo : Low h) (hv : val h = dtR fs (ss.map val)) (r0 : 0 ≤ r) (dz : 0 ≤ dtR fs (ts.map val)) :
    Wan ⟨false, (r - h.1.fdiv h.2) * h.2, fs.map (· * h.2)⟩ (1, 1) ss ∧ Wan ⟨false, (r - h.1.fdiv h.2) * h.2, fs.map (· * h.2)⟩ (0, 1) ts := by
  have fl := floor_le lo
  have p' : (0 : Rat) < (h.2 : Rat) := by rw [← Rat.intCast_zero]; exact Rat.intCast_lt_intCast.mpr lo.pos
  have r' : (0 : Rat) ≤ (r : Rat) := by rw [← Rat.intCast_zero]; exact Rat.intCast_le_intCast.mpr r0
  constructor
  · refine ⟨?_, fun z => by cases z⟩
    show 0 ≤ (((r - h.1.fdiv h.2) * h.2 : Int) : Rat) * val (1, 1) + dtR (fs.map (· * h.2)) (ss.map val)
    rw [dtR_mul, ← hv, val_int, Rat.intCast_mul, Rat.intCast_sub, Rat.intCast_one]
    have e : (r : Rat) - ((h.1.fdiv h.2 : Int) : Rat) + val h ≥ 0 := by grind
    have := Rat.mul_nonneg (Rat.le_of_lt p') e
    grind
  · refine ⟨?_, fun z => by cases z⟩
    show 0 ≤ (((r - h.1.fdiv h.2) * h.2 : Int) : Rat) * val (0, 1) + dtR (fs.map (· * h.2)) (ts.map val)
    rw [dtR_mul, val_int, Rat.intCast_zero]
    have := Rat.mul_nonneg (Rat.le_of_lt p') dz
    grind
/-- a line that is written to, and what the wish of it needs -/
theorem kw_rest {n : Nat} {p : Addr} {ms m : MS} {Q : D → MS → Prop} {ss ts : List (Int × Int)} {d : Int × Int} {x8 : Option D} {q : Addr} {l : Int} {fs : List Int} (n3 : n ≤ 3) (hs : Frs (2 * n) 8 6 ss)
    (hq : ∀ e ∈ m, e.1 ≠ q) (pm : PoolAt m p) (cm : Chg ms p m) (hl : fs.length = 2 * n) (hf : ∀ f ∈ fs, Bd 4 f) (d0 : d.1 = 0 → dtR fs (ts.map val) = 0) (dn : 0 ≤ dtR fs (ts.map val))
    (h : ∀ w, WiOk 200 (2 * n) w → Wan w (1, 1) ss → Wan w (0, 1) ts → ∀ ms', PoolAt ms' p → Chg ms p ms' → Q (wiD w) ms') :
    t_L_kept_wish_c1 { nx := fun _ m => Q .non m, rt := Q } [some (.opq (.ref p)), some (.int (n : Int)), some (.lst (ss.map fr)), some (.lst (ts.map fr)), some (.opq (.ref q)), some (fr d), none, none, x8] ((q, .int l :: fs.map D.int) :: m) := by
  obtain ⟨ls, fs8⟩ := frs_low hs
  have hne := pm.ne hq
  have hb := fb_here (fs := fs) hf fs8 (by omega)
  obtain ⟨lo, hv⟩ := val_bare (fs := fs) ls
  unfold t_L_kept_wish_c1
  walk_at "st"
  refine ⟨l, fs, ss, look_new, rfl, fit_small hf fs8 (by omega), ?_⟩
  generalize wor 0 fs ss = c at hb lo hv
  have elseway : ∀ m', PoolAt m' p → Chg ms p m' → StG t_L_kept_wish_c2 (EN.wn { nx := fun _ m => Q .non m, rt := Q } (StG (dRet (dTup (aCons (dVar 6) (aCons (dFrz (dVar 4)) aNil)))) { nx := fun _ m => Q .non m, rt := Q })) [some (.opq (.ref p)), some (.int (n : Int)), some (.lst (ss.map fr)), some (.lst (ts.map fr)), some (.opq (.ref q)), some (.tup [.int d.1, .int d.2]), some (.str (Str.ofString "least")), some (.tup [.int c.1, .int c.2]), x8] ((q, .int l :: fs.map D.int) :: m') := by
    intro m' p' c'
    refine StG.out ?_
    unfold t_L_kept_wish_c2
    walk_at "st"
    refine take_stepC hne p' (by decide) (by decide) fun r a1 b1 m2 p2 c2 => ?_
    walk_at "st"
    have cp := lo.pos
    have f1 := fdiv_small (a := c.1) cp
    have bq : Bd 118 (r - c.1.fdiv c.2) := by have := hb.top; unfold Bd at *; omega
    refine ⟨⟨by omega, Nat.lt_of_lt_of_le (Bd.log hb.bot (by decide)) (by decide)⟩, ?_⟩
    walk_at "st"
    refine w_mSetIx look_new (ixN_ok (by decide) (by rw [List.length_cons]; omega)) put_new ?_
    walk_at "st"
    rw [show (D.int l :: fs.map D.int).set (Int.toNat 0) (.int (r - c.1.fdiv c.2)) = ((r - c.1.fdiv c.2) :: fs).map D.int from rfl]
    simp only [wipeD, List.set]
    refine comp_e D.int (fun i => D.int (i * c.2)) ((r - c.1.fdiv c.2) :: fs) [] _ (by rw [List.length_nil, List.length_cons]; omega) (fun i hi P0 q0 => ?_) ?_
    · have bi : Bd 118 i := (List.mem_cons.mp hi).elim (fun z => z ▸ bq) fun z => (hf i z).mono (by decide)
      walk_at "st"
      exact ⟨bi.mulOk hb.bot (by decide) (by decide) (by decide), q0⟩
    · intro q2 hq2
      walk_at "st"
      obtain ⟨w1, w2⟩ := wan_least (ts := ts) c lo hv a1 dn
      have := h ⟨false, (r - c.1.fdiv c.2) * c.2, fs.map (· * c.2)⟩ ⟨fun x hx => ?_, by rw [List.length_map]; exact hl⟩ w1 w2 m2 p2 (c'.trans c2)
      · unfold wiD at this
        rw [List.map_map] at this
        rw [List.nil_append, List.map_cons]
        exact this
      · rcases List.mem_cons.mp hx with rfl | hx
        · exact (bq.mul hb.bot).mono (by decide)
        · obtain ⟨y, hy, rfl⟩ := List.mem_map.mp hx
          exact ((hf y hy).mul hb.bot).mono (by decide)
  rw [show fr c = D.tup [.int c.1, .int c.2] from rfl, show fr d = D.tup [.int d.1, .int d.2] from rfl]
  walk_at "st"
  by_cases e0 : d.1 = 0
  · rw [show (d.1 == 0) = true by rw [e0]; rfl]
    walk_at "st"
    by_cases e1 : c.2 = 1
    · rw [show (c.2 == 1) = true by rw [e1]; rfl]
      walk_at "st"
      refine take_stepC hne pm (by decide) (by decide) fun r a1 b1 m2 p2 c2 => ?_
      walk_at "st"
      by_cases e2 : r = 0
      · rw [show (r == 0) = true by rw [e2]; rfl]
        walk_at "st"
        refine w_mSetIx look_new (ixN_ok (by decide) (by rw [List.length_cons]; omega)) put_new ?_
        walk_at "st"
        obtain ⟨w1, w2⟩ := wan_just (l := 0 - c.1) c hv e1 rfl (d0 e0)
        exact h ⟨true, 0 - c.1, fs⟩ ⟨fun x hx => (List.mem_cons.mp hx).elim (fun z => by rw [z]; show Bd 200 (0 - c.1); have := hb.top; unfold Bd at *; omega) fun z => (hf x z).mono (by decide), hl⟩ w1 w2 m2 p2 (cm.trans c2)
      · rw [show (r == 0) = false from beq_eq_false_iff_ne.mpr e2]
        walk_at "st"
        exact elseway m2 p2 (cm.trans c2)
    · rw [show (c.2 == 1) = false from beq_eq_false_iff_ne.mpr e1]
      walk_at "st"
      exact elseway m pm cm
  · rw [show (d.1 == 0) = false from beq_eq_false_iff_ne.mpr e0]
    walk_at "st"
    exact elseway m pm cm
theorem sem_L_kept_wish : ∀ ds ms Q, sp_L_kept_wish ds ms Q → t_L_kept_wish { nx := fun _ m => Q .non m, rt := Q } (startD 9 ds) ms := by
  intro ds ms Q h
  unfold sp_L_kept_wish at h
  split at h
  · rename_i p sz xs ys
    obtain ⟨n, ss, ts, rfl, n1, n3, rfl, rfl, hs, ht, hp, h⟩ := h
    obtain ⟨lt, ft8⟩ := frs_low ht
    simp only [startD]
    unfold t_L_kept_wish
    walk_at "st"
    refine ⟨.inr (.inr ⟨by omega, by omega⟩), ?_⟩
    walk_at "st"
    refine ⟨hp, by omega, by omega, by decide, by decide, fun is hl hi m1 p1 c1 q hq => ?_⟩
    cases is with
    | nil => exact absurd hl (by simp; omega)
    | cons l fs =>
      rw [List.length_cons] at hl
      have hf : ∀ f ∈ fs, Bd 4 f := fun f hf => hi f (List.mem_cons_of_mem _ hf)
      have hfl : fs.length = 2 * n := by omega
      obtain ⟨lo, hv⟩ := val_bare (fs := fs) lt
      walk_at "st"
      refine ⟨l, fs, ts, look_new, rfl, fit_small hf ft8 (by omega), ?_⟩
      generalize wor 0 fs ts = d at lo hv
      rw [show fr d = D.tup [.int d.1, .int d.2] from rfl]
      walk_at "st"
      by_cases hd : d.1 < 0
      · rw [decide_eq_true hd]
        walk_at "st"
        have hd' : ¬ 0 ≤ d.1 := by omega
        simp only [wipeD, List.set]
        refine comp_e D.int (fun i => D.int (0 - i)) (l :: fs) [] _ (by rw [List.length_nil, List.length_cons]; omega) (fun i hi P0 q0 => ?_) ?_
        · walk_at "st"
          exact q0
        · intro q2 hq2
          walk_at "st"
          have e2 : [] ++ (l :: fs).map (fun i => D.int (0 - i)) = .int (0 - l) :: (fs.map (0 - ·)).map D.int := by rw [List.nil_append, List.map_cons, List.map_map]; rfl
          rw [e2]
          have dl : val d < 0 := Rat.not_le.mp fun z => hd' ((val_nonneg lo.pos).mp z)
          exact kw_rest n3 hs hq2 p1 c1 (by rw [List.length_map]; exact hfl) (fun f hf' => by
            obtain ⟨y, hy, rfl⟩ := List.mem_map.mp hf'
            have := hf y hy
            unfold Bd at *
            omega) (fun z => absurd z (by omega)) (by rw [dtR_neg, ← hv]; grind) h
      · rw [decide_eq_false hd]
        walk_at "st"
        exact kw_rest n3 hs hq p1 c1 hfl hf (fun z => by rw [← hv]; unfold val; rw [z, Rat.intCast_zero, Rat.div_def, Rat.zero_mul]) (by rw [← hv]; exact (val_nonneg lo.pos).mpr (by omega)) h
  · exact h.elim
theorem ok_L_kept_wish (T : Tx P K mg) : FnG P w K mg base 5 T.f_L_kept_wish T.d_L_kept_wish ["_law_pool_here", "_law_size", "_law_states", "_law_drifts"] (spD K sp_L_kept_wish) := by
  have G_L_line := ok_L_line (P := P) (w := w) (base := base) T
  have G_L_bare := ok_L_bare (P := P) (w := w) (base := base) T
  have G_L_take := ok_L_take (P := P) (w := w) (base := base) T
  exact fnG_of (k := 4) (t := t_L_kept_wish) T.F_L_kept_wish sc_L_kept_wish len_L_kept_wish
    (fun cdv A outer s H hr => pds_cons (pds_set (i := 4) sc_L_kept_wish.nd rfl (.inl rfl) (pd_call G_L_line (hr.mono (by decide)) rfl T.g_L_line T.F_L_line.kp T.b_L_line_3 (pda_cons (pd_var 0) (pda_cons (pd_op op_mulA opd_mul (pd_int) (pd_var 1)) (pda_cons (pd_int) (pda_nil)))))) (pds_cons (pds_set (i := 5) sc_L_kept_wish.nd rfl (.inl rfl) (pd_call G_L_bare (hr.mono (by decide)) rfl T.g_L_bare T.F_L_bare.kp T.b_L_bare_2 (pda_cons (pd_var 4) (pda_cons (pd_var 3) (pda_nil))))) (pds_cons (pds_if (pdt_cmp op_lt opd_lt (pd_ix ix_seq opd_ix (pd_var 5) (pd_int)) (pd_int)) (pds_one (pds_frz (i := 4) (pds_setLcM (i := 4) (own := [("_law_number", 8)]) rfl sc_L_kept_wish.nd rfl rfl (sw_true rfl rfl rfl (by decide +kernel)) (pdi_list (pd_var 4)) (blkOk_by (own := [("_law_number", 8)]) (by kernel_rfl)) (fun _ _ _ _ _ => pg_name (i := 8) sc_L_kept_wish.nd rfl (by first | exact .inl rfl | exact .inr rfl)) (tg_name (i := 8) (by decide)) (mon_name (i := 8)) (fun _ _ _ _ _ => pdts_nil) (fun _ _ _ _ _ => pd_op op_sub opd_sub (pd_int) (pd_var 8))))) (pds_nil)) (pds_cons (pds_set (i := 6) sc_L_kept_wish.nd rfl (.inl rfl) (pd_str)) (pds_cons (pds_set (i := 7) sc_L_kept_wish.nd rfl (.inr rfl) (pd_call G_L_bare (hr.mono (by decide)) rfl T.g_L_bare T.F_L_bare.kp T.b_L_bare_2 (pda_cons (pd_var 4) (pda_cons (pd_var 2) (pda_nil))))) (pds_cons (pds_if (pdt_w (pdw_and (pdt_cmp (op_eqF hr.r.units) opd_eq (pd_ix ix_seq opd_ix (pd_var 5) (pd_int)) (pd_int)) (pdw_and (pdt_cmp (op_eqF hr.r.units) opd_eq (pd_ix ix_seq opd_ix (pd_var 7) (pd_int)) (pd_int)) (pdw_and1 (pdt_cmp (op_eqF hr.r.units) opd_eq (pd_call G_L_take (hr.mono (by decide)) rfl T.g_L_take T.F_L_take.kp T.b_L_take_2 (pda_cons (pd_var 0) (pda_cons (pd_int) (pda_nil)))) (pd_int)))))) (pds_cons (pds_set (i := 6) sc_L_kept_wish.nd rfl (.inl rfl) (pd_str)) (pds_one (pds_setIx (pd_op op_sub opd_sub (pd_int) (pd_ix ix_seq opd_ix (pd_var 7) (pd_int))) (pd_var 4) (pd_int)))) (pds_cons (pds_setIx (pd_op op_sub opd_sub (pd_call G_L_take (hr.mono (by decide)) rfl T.g_L_take T.F_L_take.kp T.b_L_take_2 (pda_cons (pd_var 0) (pda_cons (pd_int) (pda_nil)))) (pd_op op_fdivA opd_div (pd_ix ix_seq opd_ix (pd_var 7) (pd_int)) (pd_ix ix_seq opd_ix (pd_var 7) (pd_int)))) (pd_var 4) (pd_int)) (pds_one (pds_frz (i := 4) (pds_setLcM (i := 4) (own := [("_law_number", 8)]) rfl sc_L_kept_wish.nd rfl rfl (sw_true rfl rfl rfl (by decide +kernel)) (pdi_list (pd_var 4)) (blkOk_by (own := [("_law_number", 8)]) (by kernel_rfl)) (fun _ _ _ _ _ => pg_name (i := 8) sc_L_kept_wish.nd rfl (by first | exact .inl rfl | exact .inr rfl)) (tg_name (i := 8) (by decide)) (mon_name (i := 8)) (fun _ _ _ _ _ => pdts_nil) (fun _ _ _ _ _ => pd_op op_mulA opd_mul (pd_var 8) (pd_ix ix_seq opd_ix (pd_var 7) (pd_int)))))))) (pds_one (pds_ret (pd_tup (pda_cons (pd_var 6) (pda_cons (pd_frz (pd_var 4)) (pda_nil))))))))))))
    sem_L_kept_wish
/-! L_ringed -/
/-- a round of a program: from row to row through its states, its drifts -/
structure RingOk (g : Pg) (st dr : List (List (Int × Int))) : Prop where
  pg : PgOk 200 g
  r1 : 1 ≤ g.rs.length
  sl : st.length = g.rs.length + 1
  dl : dr.length = g.rs.length + 1
  sf : ∀ s ∈ st, Frs g.nm.length 8 6 s
  df : ∀ s ∈ dr, Frs g.nm.length 4 3 s
  dz : dr.getD g.rs.length [] = dr.getD 0 []
  sz : st.getD g.rs.length [] = List.zipWith addT (st.getD 0 []) (dr.getD 0 [])
  ring : ∀ k, k < g.rs.length → (g.rs.getD k ⟨0, 0, []⟩).t = (g.rs.getD ((k + 1) % g.rs.length) ⟨0, 0, []⟩).s
  wa : ∀ k, k < g.rs.length → ∀ w ∈ (g.rs.getD k ⟨0, 0, []⟩).ws, Wan w (1, 1) (st.getD k [] ++ st.getD (k + 1) []) ∧ Wan w (0, 1) (dr.getD k [] ++ dr.getD (k + 1) [])
def sp_L_ringed : FS := fun ds ms P => match ds with
  | [.opq (.ref p), .int a, .int b, .int c] => PoolAt ms p ∧ 1 ≤ a ∧ a ≤ 3 ∧ 1 ≤ b ∧ b ≤ 6 ∧ 1 ≤ c ∧ c ≤ 10 ∧ ∀ (g : Pg) (st dr : List (List (Int × Int))), RingOk g st dr → (g.nm.length : Int) ≤ a → (g.pm.length : Int) ≤ b → (g.rs.length : Int) ≤ c →
      ∀ ms', PoolAt ms' p → Chg ms p ms' → P (.lst [pgD g, .tup [.lst (rng 0 g.rs.length), .lst (st.map frsD), .lst (dr.map frsD)]]) ms'
  | _ => False
theorem len_L_ringed : ∀ ds ms Q, sp_L_ringed ds ms Q → ds.length = 4 := fun ds ms Q h => by
  unfold sp_L_ringed at h
  split at h <;> first | rfl | exact h.elim
def t_L_ringed_c3 : DTS := dSeq (dAsg (dTup (aCons (dSl (dLst (aCons (dC (.str "x")) (aCons (dC (.str "y")) (aCons (dC (.str "z")) (aNil))))) (oNone) (oSome (dVar 4))) (aCons (dSl (dLst (aCons (dC (.str "a")) (aCons (dC (.str "b")) (aCons (dC (.str "c")) (aCons (dC (.str "d")) (aCons (dC (.str "e")) (aCons (dC (.str "f")) (aNil)))))))) (oNone) (oSome (dVar 5))) (aCons (dFrz (dVar 11)) (aNil))))) (sName 15)) (dRet (dLst (aCons (dVar 15) (aCons (dTup (aCons (dListR (dVar 6)) (aCons (dVar 10) (aCons (dVar 9) (aNil))))) (aNil)))))
def t_L_ringed_c2 : DTS := dSeq (dFor (iRange1 (aCons (dVar 6) (aNil))) (sName 7) (dSeq (dAsg (dLstM (aNil)) (sName 12)) (dSeq (dFor (iRange1 (aCons (dOp fAdd (dC (.int 1)) (dCall 2 0 [0, 1] sp_L_take (aCons (dVar 0) (aCons (dC (.int 4)) (aNil))) (aNil))) (aNil))) (sName 13) (dSeq (dAsg (dOp fAdd (dOp fIx (dVar 10) (dVar 7)) (dOp fIx (dVar 10) (dOp fAdd (dVar 7) (dC (.int 1))))) (sName 14)) (dDrop (dAppend (dVar 12) (aCons (dCall 4 0 [0, 1, 2, 3] sp_L_kept_wish (aCons (dVar 0) (aCons (dVar 4) (aCons (dVar 14) (aCons (dOp fAdd (dOp fIx (dVar 9) (dVar 7)) (dOp fIx (dVar 9) (dOp fAdd (dVar 7) (dC (.int 1))))) (aNil))))) (aNil)) (aNil)))))) (dDrop (dAppend (dVar 11) (aCons (dTup (aCons (dOp fIx (dVar 8) (dVar 7)) (aCons (dOp fIx (dVar 8) (dOp fMod (dOp fAdd (dVar 7) (dC (.int 1))) (dVar 6))) (aCons (dFrz (dVar 12)) (aNil))))) (aNil))))))) (t_L_ringed_c3)
def t_L_ringed_c1 : DTS := dSeq (dDrop (dAppend (dVar 9) (aCons (dCB cList (aCons (dOp fIx (dVar 9) (dC (.int 0))) (aNil))) (aNil)))) (dSeq (dFrzS 9 (dAsg (dLcM (iRange1 (aCons (dVar 6) (aNil))) (sName 7) (dYes) (dCall 2 0 [0, 1] sp_L_stop (aCons (dVar 0) (aCons (dVar 4) (aNil))) (aNil)) [7]) (sName 10))) (dSeq (dDrop (dAppend (dVar 10) (aCons (dCall 2 0 [0, 1] sp_L_all (aCons (dOp fIx (dVar 10) (dC (.int 0))) (aCons (dOp fIx (dVar 9) (dC (.int 0))) (aNil))) (aNil)) (aNil)))) (dSeq (dFrzS 10 (dAsg (dLstM (aNil)) (sName 11))) (t_L_ringed_c2))))
def t_L_ringed : DTS := dSeq (dAsg (dOp fAdd (dC (.int 1)) (dCall 2 0 [0, 1] sp_L_take (aCons (dVar 0) (aCons (dVar 1) (aNil))) (aNil))) (sName 4)) (dSeq (dAsg (dOp fAdd (dC (.int 1)) (dCall 2 0 [0, 1] sp_L_take (aCons (dVar 0) (aCons (dVar 2) (aNil))) (aNil))) (sName 5)) (dSeq (dAsg (dOp fAdd (dC (.int 1)) (dCall 2 0 [0, 1] sp_L_take (aCons (dVar 0) (aCons (dVar 3) (aNil))) (aNil))) (sName 6)) (dSeq (dAsg (dLc (iRange1 (aCons (dVar 6) (aNil))) (sName 7) (dYes) (dCall 2 0 [0, 1] sp_L_take (aCons (dVar 0) (aCons (dVar 5) (aNil))) (aNil)) [7]) (sName 8)) (dSeq (dAsg (dLcM (iRange1 (aCons (dVar 6) (aNil))) (sName 7) (dYes) (dCall 2 0 [0, 1] sp_L_stop (aCons (dVar 0) (aCons (dVar 4) (aNil))) (aNil)) [7]) (sName 9)) (dSeq (dIfS (dTest (dOp fEq (dCall 2 0 [0, 1] sp_L_take (aCons (dVar 0) (aCons (dC (.int 3)) (aNil))) (aNil)) (dC (.int 0)))) (dSetIx (dVar 9) (dC (.int 0)) (dOp fMul (dLst (aCons (dTup (aCons (dC (.int 0)) (aCons (dC (.int 1)) (aNil)))) (aNil))) (dVar 4))) (dNext)) (t_L_ringed_c1))))))
theorem getD_in {α : Type} {xs : List α} {i : Nat} (d : α) (h : i < xs.length) : xs[i]? = some (xs.getD i d) ∧ xs.getD i d ∈ xs := by
  have e : xs[i]? = some (xs.getD i d) := by rw [List.getD_eq_getElem?_getD, List.getElem?_eq_getElem h]; rfl
  exact ⟨e, mem_at e⟩
/-- the rows so far -/
structure Rws (n R : Nat) (sp : List Int) (st dr : List (List (Int × Int))) (k : Nat) (rs : List Rw) : Prop where
  ln : rs.length = k
  at_ : ∀ i, i < k → (rs.getD i ⟨0, 0, []⟩).s = sp.getD i 0 ∧ (rs.getD i ⟨0, 0, []⟩).t = sp.getD ((i + 1) % R) 0 ∧ (rs.getD i ⟨0, 0, []⟩).ws.length ≤ 4 ∧
    ∀ w ∈ (rs.getD i ⟨0, 0, []⟩).ws, WiOk 200 (2 * n) w ∧ Wan w (1, 1) (st.getD i [] ++ st.getD (i + 1) []) ∧ Wan w (0, 1) (dr.getD i [] ++ dr.getD (i + 1) [])
theorem Rws.add {n R k : Nat} {sp : List Int} {st dr : List (List (Int × Int))} {rs : List Rw} (h : Rws n R sp st dr k rs) {ws : List Wi} (hl : ws.length ≤ 4)
    (hw : ∀ w ∈ ws, WiOk 200 (2 * n) w ∧ Wan w (1, 1) (st.getD k [] ++ st.getD (k + 1) []) ∧ Wan w (0, 1) (dr.getD k [] ++ dr.getD (k + 1) [])) : Rws n R sp st dr (k + 1) (rs ++ [⟨sp.getD k 0, sp.getD ((k + 1) % R) 0, ws⟩]) := by
  refine ⟨by rw [List.length_append, h.ln]; rfl, fun i hi => ?_⟩
  by_cases e : i < k
  · rw [List.getD_eq_getElem?_getD, List.getElem?_append_left (by rw [h.ln]; exact e), ← List.getD_eq_getElem?_getD]
    exact h.at_ i e
  · obtain rfl : i = k := by omega
    have ez : (rs ++ [(⟨sp.getD i 0, sp.getD ((i + 1) % R) 0, ws⟩ : Rw)]).getD i ⟨0, 0, []⟩ = ⟨sp.getD i 0, sp.getD ((i + 1) % R) 0, ws⟩ := by
      rw [List.getD_eq_getElem?_getD, List.getElem?_append_right (by rw [h.ln]; exact Nat.le_refl _), h.ln, Nat.sub_self]; rfl
    rw [ez]
    exact ⟨rfl, rfl, hl, hw⟩
theorem frs_at {n N M : Nat} {st : List (List (Int × Int))} (h : ∀ s ∈ st, Frs n N M s) {k : Nat} (hk : k < st.length) : atI (st.map frsD) (k : Int) = some (frsD (st.getD k [])) ∧ Frs n N M (st.getD k []) := by
  obtain ⟨e, m⟩ := getD_in [] hk
  exact ⟨atI_nat (by rw [List.getElem?_map, e]; rfl), h _ m⟩
theorem frs_two {n N M : Nat} {s t : List (Int × Int)} (h : Frs n N M s) (k : Frs n N M t) : Frs (2 * n) N M (s ++ t) :=
  ⟨by rw [List.length_append, h.ln, k.ln]; omega, fun x hx => (List.mem_append.mp hx).elim (h.ok x) (k.ok x)⟩
theorem fmod_nat {k R : Nat} : ((k : Int) + 1).fmod (R : Int) = (((k + 1) % R : Nat) : Int) := by
  rw [Int.fmod_eq_emod_of_nonneg _ (Int.natCast_nonneg R)]; rfl
theorem int_at {sp : List Int} {i : Nat} (h : i < sp.length) : atI (sp.map D.int) (i : Int) = some (.int (sp.getD i 0)) :=
  atI_nat (by rw [List.getElem?_map, (getD_in 0 h).1]; rfl)
theorem ringed_rows {n M R : Nat} {p q : Addr} {a b c : Int} {ms m : MS} {E : EN} {sp : List Int} {st dr : List (List (Int × Int))} {x7 x12 x13 x14 x15 : Option D} (n1 : 1 ≤ n) (n3 : n ≤ 3) (R0 : 1 ≤ R) (R1 : R ≤ 10) (hsp : sp.length = R)
    (hst : ∀ s ∈ st, Frs n 8 6 s) (hdr : ∀ s ∈ dr, Frs n 4 3 s) (ls : st.length = R + 1) (ld : dr.length = R + 1) (pm : PoolAt m p) (cm : Chg ms p m) (hq : p ≠ q)
    (fin : ∀ rs m' x7 x12 x13 x14, Rws n R sp st dr R rs → PoolAt m' p → Chg ms p m' → t_L_ringed_c3 E [some (.opq (.ref p)), some (.int a), some (.int b), some (.int c), some (.int (n : Int)), some (.int (M : Int)), some (.int (R : Int)), x7, some (.lst (sp.map D.int)), some (.lst (dr.map frsD)), some (.lst (st.map frsD)), some (.opq (.ref q)), x12, x13, x14, x15] ((q, rs.map rwD) :: m')) :
    t_L_ringed_c2 E [some (.opq (.ref p)), some (.int a), some (.int b), some (.int c), some (.int (n : Int)), some (.int (M : Int)), some (.int (R : Int)), x7, some (.lst (sp.map D.int)), some (.lst (dr.map frsD)), some (.lst (st.map frsD)), some (.opq (.ref q)), x12, x13, x14, x15] ((q, []) :: m) := by
  unfold t_L_ringed_c2
  walk_at "st"
  refine w_mRng ⟨by omega, by omega⟩ ?_
  rw [Int.toNat_natCast]
  refine loop_rng (fun k ds m' => ∃ rs m1 x7 x12 x13 x14, Rws n R sp st dr k rs ∧ m' = (q, rs.map rwD) :: m1 ∧ PoolAt m1 p ∧ Chg ms p m1 ∧ ds = [some (.opq (.ref p)), some (.int a), some (.int b), some (.int c), some (.int (n : Int)), some (.int (M : Int)), some (.int (R : Int)), x7, some (.lst (sp.map D.int)), some (.lst (dr.map frsD)), some (.lst (st.map frsD)), some (.opq (.ref q)), x12, x13, x14, x15]) R ⟨[], m, _, _, _, _, ⟨rfl, fun i hi => absurd hi (Nat.not_lt_zero i)⟩, rfl, pm, cm, rfl⟩ ?_ ?_
  · rintro k ds m' hk ⟨rs, m1, x7, x12, x13, x14, hR, rfl, p1, c1, rfl⟩ N hN
    rw [Int.zero_add]
    walk_at "st"
    intro qw hqw
    have hn2 : p ≠ qw := (p1.cons hq).ne hqw
    walk_at "st"
    refine take_step ((p1.cons hq).cons hn2) (by decide) (by decide) fun r a1 b1 m2 p2 c2 => ?_
    obtain ⟨m3, rfl, c3⟩ := chg_cons hn2 c2
    obtain ⟨m4, rfl, c4⟩ := chg_cons hq c3
    have p4 := (p2.tail hn2).tail hq
    walk_at "st"
    refine w_mRng ⟨by omega, by omega⟩ ?_
    obtain ⟨e1, f1⟩ := frs_at hst (k := k) (by omega)
    obtain ⟨e2, f2⟩ := frs_at hst (k := k + 1) (by omega)
    obtain ⟨e3, f3⟩ := frs_at hdr (k := k) (by omega)
    obtain ⟨e4, f4⟩ := frs_at hdr (k := k + 1) (by omega)
    have l1 := f1.ln
    have l2 := f2.ln
    have l3 := f3.ln
    have l4 := f4.ln
    refine loop_n (fun j ds m' => ∃ ws m5 x13 x14, ws.length = j ∧ (∀ w ∈ ws, WiOk 200 (2 * n) w ∧ Wan w (1, 1) (st.getD k [] ++ st.getD (k + 1) []) ∧ Wan w (0, 1) (dr.getD k [] ++ dr.getD (k + 1) [])) ∧ m' = (qw, ws.map wiD) :: (q, rs.map rwD) :: m5 ∧ PoolAt m5 p ∧ Chg ms p m5 ∧ ds = [some (.opq (.ref p)), some (.int a), some (.int b), some (.int c), some (.int (n : Int)), some (.int (M : Int)), some (.int (R : Int)), some (.int (k : Int)), some (.lst (sp.map D.int)), some (.lst (dr.map frsD)), some (.lst (st.map frsD)), some (.opq (.ref q)), some (.opq (.ref qw)), x13, x14, x15]) 4 _ 0 _ _ (by rw [rng_len]; omega) ⟨[], m4, _, _, rfl, (fun w hw => absurd hw List.not_mem_nil), rfl, p4, c1.trans c4, rfl⟩ ?_ ?_
    · rintro x hx j ds m' hj ⟨ws, m5, x13, x14, lw, hw, rfl, p5, c5, rfl⟩ N2 hN2
      walk_at "st"
      refine w_ix_l (d := .lst ((st.getD k []).map fr)) e1 ?_
      walk_at "st"
      refine w_ix_l (d := .lst ((st.getD (k + 1) []).map fr)) e2 ?_
      walk_at "st"
      refine ⟨size_ok (by rw [List.length_map, List.length_map]; omega), ?_⟩
      walk_at "st"
      refine w_ix_l (d := .lst ((dr.getD k []).map fr)) e3 ?_
      walk_at "st"
      refine w_ix_l (d := .lst ((dr.getD (k + 1) []).map fr)) e4 ?_
      walk_at "st"
      refine ⟨size_ok (by rw [List.length_map, List.length_map]; omega), ?_⟩
      walk_at "st"
      refine ⟨n, st.getD k [] ++ st.getD (k + 1) [], dr.getD k [] ++ dr.getD (k + 1) [], rfl, n1, n3, (List.map_append ..).symm, (List.map_append ..).symm, frs_two f1 f2, (frs_two f3 f4).mono (by decide) (by decide), (p5.cons hq).cons hn2, fun w w1 w2 w3 m6 p6 c6 => ?_⟩
      obtain ⟨m7, rfl, c7⟩ := chg_cons hn2 c6
      obtain ⟨m8, rfl, c8⟩ := chg_cons hq c7
      walk_at "st"
      refine ⟨by rw [List.length_map]; exact Nat.lt_of_lt_of_le (by omega : ws.length < 100) (by decide), ?_⟩
      rw [show ws.map wiD ++ [wiD w] = (ws ++ [w]).map wiD by rw [List.map_append]; rfl]
      walk_at "st"
      refine hN2 _ _ ⟨ws ++ [w], m8, _, _, by rw [List.length_append, lw]; rfl, (fun v hv => ?_), rfl, (p6.tail hn2).tail hq, c5.trans c8, rfl⟩
      rcases List.mem_append.mp hv with hv | hv
      · exact hw v hv
      · cases List.mem_singleton.mp hv
        exact ⟨w1, w2, w3⟩
    · rintro ds m' ⟨ws, m5, x13, x14, lw, hw, rfl, p5, c5, rfl⟩
      rw [rng_len] at lw
      have hnq : q ≠ qw := hqw (q, rs.map rwD) List.mem_cons_self
      walk_at "st"
      refine w_mApp (look_2 hnq) ?_
      walk_at "st"
      refine w_ix_l (int_at (sp := sp) (i := k) (by omega)) ?_
      walk_at "st"
      refine ⟨by omega, ?_⟩
      rw [fmod_nat]
      refine w_ix_l (int_at (sp := sp) (i := (k + 1) % R) (by rw [hsp]; exact Nat.mod_lt _ (by omega))) ?_
      walk_at "st"
      refine ⟨by rw [List.length_map, hR.ln]; exact Nat.lt_of_lt_of_le (by omega : k < 100) (by decide), ?_⟩
      rw [show rs.map rwD ++ [D.tup [D.int (sp.getD k 0), D.int (sp.getD ((k + 1) % R) 0), D.lst (ws.map wiD)]] = (rs ++ [(⟨sp.getD k 0, sp.getD ((k + 1) % R) 0, ws⟩ : Rw)]).map rwD by rw [List.map_append]; rfl]
      walk_at "st"
      exact hN _ _ ⟨_, m5, _, _, _, _, hR.add (by omega) hw, rfl, p5, c5, rfl⟩
  · rintro ds m' ⟨rs, m1, x7, x12, x13, x14, hR, rfl, p1, c1, rfl⟩
    walk_at "st"
    exact fin rs m1 x7 x12 x13 x14 hR p1 c1
theorem mem_zw {α β γ : Type} {f : α → β → γ} : ∀ {as : List α} {bs : List β} {x : γ}, x ∈ List.zipWith f as bs → ∃ a, a ∈ as ∧ ∃ b, b ∈ bs ∧ x = f a b
  | [], _, _, h => by cases h
  | _ :: _, [], _, h => by cases h
  | a :: as, b :: bs, x, h => by
    rw [List.zipWith_cons_cons] at h
    cases h with
    | head => exact ⟨a, List.mem_cons_self, b, List.mem_cons_self, rfl⟩
    | tail _ h =>
      obtain ⟨a', h1, b', h2, e⟩ := mem_zw h
      exact ⟨a', List.mem_cons_of_mem _ h1, b', List.mem_cons_of_mem _ h2, e⟩
theorem rep_flatF : ∀ n : Nat, (List.replicate n [D.tup [D.int 0, D.int 1]]).flatten = (List.replicate n ((0 : Int), (1 : Int))).map fr
  | 0 => rfl
  | n + 1 => by
    rw [List.replicate_succ, List.replicate_succ, List.flatten_cons, rep_flatF n]; rfl
theorem frs_nil (n N M : Nat) (h : 1 ≤ N) (k : 1 ≤ M) : Frs n N M (List.replicate n (0, 1)) := ⟨List.length_replicate, fun x hx => by
  rw [List.eq_of_mem_replicate hx]
  exact ⟨low_int 0, (fb_int (n := 1) (by unfold Bd; decide)).mono h k⟩⟩
theorem repF_ok {n : Nat} {d : D} (h : n ≤ 3) : -2 ^ 63 ≤ (n : Int) ∧ (n : Int) < 2 ^ 63 ∧ [d].length * (n : Int).toNat ≤ sizeLine := by
  rw [Int.toNat_natCast, List.length_singleton, Nat.one_mul]
  exact ⟨by omega, by omega, Nat.le_trans h (by decide)⟩
theorem ringed_rest {n M R : Nat} {p q : Addr} {a b c : Int} {ms m : MS} {Q : D → MS → Prop} {sp : List Int} {d0 : List (List (Int × Int))} {x7 : Option D} (n1 : 1 ≤ n) (n3 : n ≤ 3) (M1 : 1 ≤ M) (M6 : M ≤ 6) (R0 : 1 ≤ R) (R1 : R ≤ 10) (ha : (n : Int) ≤ a) (hb : (M : Int) ≤ b) (hc : (R : Int) ≤ c)
    (hsp : sp.length = R) (hM : ∀ s ∈ sp, 0 ≤ s ∧ s < (M : Int)) (hd : ∀ s ∈ d0, Frs n 4 3 s) (ld : d0.length = R) (pm : PoolAt m p) (cm : Chg ms p m) (hne : p ≠ q)
    (h : ∀ (g : Pg) (st dr : List (List (Int × Int))), RingOk g st dr → (g.nm.length : Int) ≤ a → (g.pm.length : Int) ≤ b → (g.rs.length : Int) ≤ c → ∀ ms', PoolAt ms' p → Chg ms p ms' → Q (.lst [pgD g, .tup [.lst (rng 0 g.rs.length), .lst (st.map frsD), .lst (dr.map frsD)]]) ms') :
    t_L_ringed_c1 { nx := fun _ m => Q .non m, rt := Q } [some (.opq (.ref p)), some (.int a), some (.int b), some (.int c), some (.int (n : Int)), some (.int (M : Int)), some (.int (R : Int)), x7, some (.lst (sp.map D.int)), some (.opq (.ref q)), none, none, none, none, none, none] ((q, d0.map frsD) :: m) := by
  obtain ⟨e0, f0⟩ := frs_at hd (k := 0) (by omega)
  unfold t_L_ringed_c1
  walk_at "st"
  refine w_ix_o (d := .lst ((d0.getD 0 []).map fr)) look_new e0 ?_
  walk_at "st"
  refine ⟨by rw [List.length_map, ld]; exact Nat.lt_of_lt_of_le (by omega : R < 100) (by decide), ?_⟩
  rw [show d0.map frsD ++ [D.lst ((d0.getD 0 []).map fr)] = (d0 ++ [d0.getD 0 []]).map frsD by rw [List.map_append]; rfl]
  have hdr : ∀ s ∈ d0 ++ [d0.getD 0 []], Frs n 4 3 s := fun s hs => (List.mem_append.mp hs).elim (hd s) fun z => by rw [List.mem_singleton.mp z]; exact f0
  have ldr : (d0 ++ [d0.getD 0 []]).length = R + 1 := by rw [List.length_append, ld]; rfl
  have z0 : (d0 ++ [d0.getD 0 []]).getD 0 [] = d0.getD 0 [] := by
    rw [List.getD_eq_getElem?_getD, List.getElem?_append_left (by omega), ← List.getD_eq_getElem?_getD]
  have zR : (d0 ++ [d0.getD 0 []]).getD R [] = d0.getD 0 [] := by
    rw [List.getD_eq_getElem?_getD, List.getElem?_append_right (by omega), ld, Nat.sub_self]; rfl
  generalize d0 ++ [d0.getD 0 []] = dr at hdr ldr z0 zR ⊢
  walk_at "st"
  refine w_mRng ⟨by omega, by omega⟩ ?_
  rw [Int.toNat_natCast]
  simp only [wipeD, List.set]
  refine comp_pool (p := p) (Good := fun d => ∃ s : List (Int × Int), d = frsD s ∧ Frs n 4 3 s) _ [] m _ pm (by rw [rng_len, List.length_nil]; omega) (fun x hx m hm P0 q => ?_) ?_
  · walk_at "st"
    exact ⟨hm, by omega, by omega, fun s hs m2 p2 c2 => q _ _ ⟨s, rfl, by rw [Int.toNat_natCast] at hs; exact hs⟩ p2 c2⟩
  intro ys m5 hl5 hg5 p5 k5
  rw [List.nil_append]
  rw [rng_len] at hl5
  obtain ⟨s0, rfl, hs0⟩ := maps_of ys hg5
  rw [List.length_map] at hl5
  intro q2 hq2
  have hne2 := p5.ne hq2
  obtain ⟨e1, f1⟩ := frs_at hs0 (k := 0) (by omega)
  obtain ⟨e2, f2⟩ := frs_at hdr (k := 0) (by omega)
  have f3 : Frs n 8 6 (List.zipWith addT (s0.getD 0 []) (dr.getD 0 [])) := ⟨by rw [List.length_zipWith, f1.ln, f2.ln]; omega, fun x hx => by
    obtain ⟨a, ha, b, hb, rfl⟩ := mem_zw hx
    have u := f1.ok a ha
    have v := f2.ok b hb
    exact ⟨low_add u.1.ne v.1.ne, (fb_add (k := 7) u.2 v.2 (by decide) (by decide)).mono (by decide) (by decide)⟩⟩
  walk_at "st"
  refine w_ix_o (d := .lst ((s0.getD 0 []).map fr)) look_new e1 ?_
  walk_at "st"
  refine w_ix_l (d := .lst ((dr.getD 0 []).map fr)) e2 ?_
  walk_at "st"
  refine ⟨s0.getD 0 [], dr.getD 0 [], rfl, rfl, by rw [f1.ln]; omega, fun s hs => (f1.ok s hs).2.mono (by decide) (by decide), fun s hs => (f2.ok s hs).2.mono (by decide) (by decide), ?_⟩
  walk_at "st"
  refine ⟨by rw [List.length_map, hl5]; exact Nat.lt_of_lt_of_le (by omega : R < 100) (by decide), ?_⟩
  rw [show s0.map frsD ++ [D.lst ((List.zipWith addT (s0.getD 0 []) (dr.getD 0 [])).map fr)] = (s0 ++ [List.zipWith addT (s0.getD 0 []) (dr.getD 0 [])]).map frsD by rw [List.map_append]; rfl]
  have hst : ∀ s ∈ s0 ++ [List.zipWith addT (s0.getD 0 []) (dr.getD 0 [])], Frs n 8 6 s := fun s hs => (List.mem_append.mp hs).elim (fun z => (hs0 s z).mono (by decide) (by decide)) fun z => by rw [List.mem_singleton.mp z]; exact f3
  have lst : (s0 ++ [List.zipWith addT (s0.getD 0 []) (dr.getD 0 [])]).length = R + 1 := by rw [List.length_append, hl5]; rfl
  have y0 : (s0 ++ [List.zipWith addT (s0.getD 0 []) (dr.getD 0 [])]).getD 0 [] = s0.getD 0 [] := by
    rw [List.getD_eq_getElem?_getD, List.getElem?_append_left (by omega), ← List.getD_eq_getElem?_getD]
  have yR : (s0 ++ [List.zipWith addT (s0.getD 0 []) (dr.getD 0 [])]).getD R [] = List.zipWith addT (s0.getD 0 []) (dr.getD 0 []) := by
    rw [List.getD_eq_getElem?_getD, List.getElem?_append_right (by omega), hl5, Nat.sub_self]; rfl
  generalize s0 ++ [List.zipWith addT (s0.getD 0 []) (dr.getD 0 [])] = st at hst lst y0 yR ⊢
  rw [← y0] at yR
  walk_at "st"
  intro q3 hq3
  walk_at "st"
  refine ringed_rows n1 n3 R0 R1 hsp hst hdr lst ldr p5 (cm.trans k5) (p5.ne hq3) fun rs m' x7 x12 x13 x14 hR p6 c6 => ?_
  unfold t_L_ringed_c3
  walk_at "st"
  rw [cut_to _ _ (by simp; omega), cut_to _ _ (by simp; omega)]
  refine w_mListR ⟨by omega, by omega⟩ ?_
  walk_at "st"
  have k1 := nm_xyz (n := n) (by omega) (by omega)
  have k2 := nm_abc (n := M) (by omega) (by omega)
  have l1 : ((["x", "y", "z"] : List Str).take n).length = n := by rw [List.length_take]; show min n 3 = n; omega
  have l2 : ((["a", "b", "c", "d", "e", "f"] : List Str).take M).length = M := by rw [List.length_take]; show min M 6 = M; omega
  have hrl := hR.ln
  have hs : ∀ i, i < R → 0 ≤ sp.getD i 0 ∧ sp.getD i 0 < (M : Int) := fun i hi => hM _ (getD_in 0 (by omega)).2
  have ok : RingOk ⟨(["x", "y", "z"] : List Str).take n, (["a", "b", "c", "d", "e", "f"] : List Str).take M, rs⟩ st dr := by
    refine ⟨⟨k1, k2, by show rs.length ≤ 10; omega, fun r hr => ?_⟩, by show 1 ≤ rs.length; omega, by show st.length = rs.length + 1; omega, by show dr.length = rs.length + 1; omega, ?_, ?_, ?_, ?_, fun k hk => ?_, fun k hk w hw => ?_⟩
    · have hr : r ∈ rs := hr
      obtain ⟨i, hi, e⟩ := List.mem_iff_getElem.mp hr
      obtain ⟨s1, s2, s3, s4⟩ := hR.at_ i (by omega)
      have e' : rs.getD i ⟨0, 0, []⟩ = r := by rw [List.getD_eq_getElem?_getD, List.getElem?_eq_getElem hi, e]; rfl
      rw [e'] at s1 s2 s3 s4
      have q1 := hs i (by omega)
      have q2 := hs ((i + 1) % R) (Nat.mod_lt _ (by omega))
      rw [l1, l2]
      exact ⟨by rw [s1]; exact q1.1, by rw [s1]; exact q1.2, by rw [s2]; exact q2.1, by rw [s2]; exact q2.2, Nat.le_trans s3 (by decide), fun w hw => (s4 w hw).1⟩
    · rw [l1]; exact hst
    · rw [l1]; exact hdr
    · show dr.getD rs.length [] = _
      rw [hrl, zR, z0]
    · show st.getD rs.length [] = _
      rw [hrl, yR]
    · have hk : k < rs.length := hk
      show (rs.getD k ⟨0, 0, []⟩).t = (rs.getD ((k + 1) % rs.length) ⟨0, 0, []⟩).s
      rw [hrl]
      rw [(hR.at_ k (by omega)).2.1, (hR.at_ ((k + 1) % R) (Nat.mod_lt _ (by omega))).1]
    · have hk : k < rs.length := hk
      exact ((hR.at_ k (by omega)).2.2.2 w hw).2
  have := h _ st dr ok (by rw [l1]; exact ha) (by rw [l2]; exact hb) (by show (rs.length : Int) ≤ c; omega) m' p6 c6
  unfold pgD at this
  rw [List.map_take, List.map_take] at this
  rw [Int.toNat_natCast, ← hrl]
  exact this
theorem sem_L_ringed : ∀ ds ms Q, sp_L_ringed ds ms Q → t_L_ringed { nx := fun _ m => Q .non m, rt := Q } (startD 16 ds) ms := by
  intro ds ms Q h
  unfold sp_L_ringed at h
  split at h
  · rename_i p a b c
    obtain ⟨hp, a1, a3, b1, b6, c1, c10, h⟩ := h
    simp only [startD]
    unfold t_L_ringed
    walk_at "st"
    refine take_step hp (by omega) (by omega) fun r1 x1 y1 m1 p1 k1 => ?_
    walk_at "st"
    refine take_step p1 (by omega) (by omega) fun r2 x2 y2 m2 p2 k2 => ?_
    walk_at "st"
    refine take_step p2 (by omega) (by omega) fun r3 x3 y3 m3 p3 k3 => ?_
    obtain ⟨n, hn⟩ : ∃ n : Nat, 1 + r1 = (n : Int) := ⟨(1 + r1).toNat, by omega⟩
    obtain ⟨M, hM⟩ : ∃ n : Nat, 1 + r2 = (n : Int) := ⟨(1 + r2).toNat, by omega⟩
    obtain ⟨R, hR⟩ : ∃ n : Nat, 1 + r3 = (n : Int) := ⟨(1 + r3).toNat, by omega⟩
    walk_at "st"
    rw [hn, hM, hR]
    refine w_mRng ⟨by omega, by omega⟩ ?_
    rw [Int.toNat_natCast]
    simp only [wipeD, List.set]
    refine comp_pool (p := p) (Good := fun d => ∃ i, d = .int i ∧ 0 ≤ i ∧ i < (M : Int)) _ [] m3 _ p3 (by rw [rng_len, List.length_nil]; omega) (fun x hx m hm P0 q => ?_) ?_
    · walk_at "st"
      exact take_step hm (by omega) (by omega) fun r a1 b1 m2 p2 c2 => q _ _ ⟨_, rfl, a1, b1⟩ p2 c2
    intro ys m4 hl hg p4 k4
    rw [List.nil_append]
    rw [rng_len] at hl
    obtain ⟨sp, rfl, hsp⟩ := maps_of ys hg
    rw [List.length_map] at hl
    walk_at "st"
    refine w_mRng ⟨by omega, by omega⟩ ?_
    rw [Int.toNat_natCast]
    simp only [wipeD, List.set]
    refine comp_pool (p := p) (Good := fun d => ∃ s : List (Int × Int), d = frsD s ∧ Frs n 4 3 s) _ [] m4 _ p4 (by rw [rng_len, List.length_nil]; omega) (fun x hx m hm P0 q => ?_) ?_
    · walk_at "st"
      exact ⟨hm, by omega, by omega, fun s hs m2 p2 c2 => q _ _ ⟨s, rfl, by rw [Int.toNat_natCast] at hs; exact hs⟩ p2 c2⟩
    intro ys m5 hl5 hg5 p5 k5
    rw [List.nil_append]
    rw [rng_len] at hl5
    obtain ⟨d0, rfl, hd0⟩ := maps_of ys hg5
    rw [List.length_map] at hl5
    intro q hq
    have hne := p5.ne hq
    walk_at "st"
    refine take_stepC hne p5 (by decide) (by decide) fun r a1 b1 m6 p6 k6 => ?_
    walk_at "st"
    by_cases e : r = 0
    · rw [show (r == 0) = true by rw [e]; rfl]
      walk_at "st"
      refine ⟨repF_ok (by omega), ?_⟩
      walk_at "st"
      refine w_mSetIx look_new (ixN_ok (by decide) (by rw [List.length_map]; omega)) put_new ?_
      rw [rep_flatF, Int.toNat_natCast, show (d0.map frsD).set (Int.toNat 0) (.lst ((List.replicate n ((0 : Int), (1 : Int))).map fr)) = (d0.set 0 (List.replicate n (0, 1))).map frsD by rw [List.map_set]; rfl]
      walk_at "st"
      exact ringed_rest (by omega) (by omega) (by omega) (by omega) (by omega) (by omega) (by omega) (by omega) (by omega) hl hsp (fun s hs => (List.mem_or_eq_of_mem_set hs).elim (hd0 s) fun z => z ▸ frs_nil n 4 3 (by decide) (by decide)) (by rw [List.length_set]; exact hl5) p6 (k1.trans (k2.trans (k3.trans (k4.trans (k5.trans k6))))) hne h
    · rw [show (r == 0) = false from beq_eq_false_iff_ne.mpr e]
      walk_at "st"
      exact ringed_rest (by omega) (by omega) (by omega) (by omega) (by omega) (by omega) (by omega) (by omega) (by omega) hl hsp hd0 hl5 p6 (k1.trans (k2.trans (k3.trans (k4.trans (k5.trans k6))))) hne h
  · exact h.elim
theorem ok_L_ringed (T : Tx P K mg) : FnG P w K mg base 6 T.f_L_ringed T.d_L_ringed ["_law_pool_here", "_law_most", "_law_places", "_law_longest"] (spD K sp_L_ringed) := by
  have G_L_take := ok_L_take (P := P) (w := w) (base := base) T
  have G_L_stop := ok_L_stop (P := P) (w := w) (base := base) T
  have G_L_all := ok_L_all (P := P) (w := w) (base := base) T
  have G_L_kept_wish := ok_L_kept_wish (P := P) (w := w) (base := base) T
  exact fnG_of (k := 5) (t := t_L_ringed) T.F_L_ringed sc_L_ringed len_L_ringed
    (fun cdv A outer s H hr => pds_cons (pds_set (i := 4) sc_L_ringed.nd rfl (.inr rfl) (pd_op op_addD opd_add (pd_int) (pd_call G_L_take (hr.mono (by decide)) rfl T.g_L_take T.F_L_take.kp T.b_L_take_2 (pda_cons (pd_var 0) (pda_cons (pd_var 1) (pda_nil)))))) (pds_cons (pds_set (i := 5) sc_L_ringed.nd rfl (.inr rfl) (pd_op op_addD opd_add (pd_int) (pd_call G_L_take (hr.mono (by decide)) rfl T.g_L_take T.F_L_take.kp T.b_L_take_2 (pda_cons (pd_var 0) (pda_cons (pd_var 2) (pda_nil)))))) (pds_cons (pds_set (i := 6) sc_L_ringed.nd rfl (.inl rfl) (pd_op op_addD opd_add (pd_int) (pd_call G_L_take (hr.mono (by decide)) rfl T.g_L_take T.F_L_take.kp T.b_L_take_2 (pda_cons (pd_var 0) (pda_cons (pd_var 3) (pda_nil)))))) (pds_cons (pds_setLc (i := 8) (own := [("_law_row", 7)]) rfl sc_L_ringed.nd rfl rfl (sw_true rfl rfl rfl (by decide +kernel)) (pdi_range1 rfl T.n_range (pda_cons (pd_var 6) (pda_nil))) (blkOk_by (own := [("_law_row", 7)]) (by kernel_rfl)) (fun _ _ _ _ _ => pg_name (i := 7) sc_L_ringed.nd rfl (by first | exact .inl rfl | exact .inr rfl)) (tg_name (i := 7) (by decide)) (mon_name (i := 7)) (fun _ _ _ _ _ => pdts_nil) (fun _ _ _ _ _ => pd_call G_L_take (hr.mono (by decide)) rfl T.g_L_take T.F_L_take.kp T.b_L_take_2 (pda_cons (pd_var 0) (pda_cons (pd_var 5) (pda_nil))))) (pds_cons (pds_setLcM (i := 9) (own := [("_law_row", 7)]) rfl sc_L_ringed.nd rfl rfl (sw_true rfl rfl rfl (by decide +kernel)) (pdi_range1 rfl T.n_range (pda_cons (pd_var 6) (pda_nil))) (blkOk_by (own := [("_law_row", 7)]) (by kernel_rfl)) (fun _ _ _ _ _ => pg_name (i := 7) sc_L_ringed.nd rfl (by first | exact .inl rfl | exact .inr rfl)) (tg_name (i := 7) (by decide)) (mon_name (i := 7)) (fun _ _ _ _ _ => pdts_nil) (fun _ _ _ _ _ => pd_call G_L_stop (hr.mono (by decide)) rfl T.g_L_stop T.F_L_stop.kp T.b_L_stop_2 (pda_cons (pd_var 0) (pda_cons (pd_var 4) (pda_nil))))) (pds_cons (pds_if (pdt_cmp (op_eqF hr.r.units) opd_eq (pd_call G_L_take (hr.mono (by decide)) rfl T.g_L_take T.F_L_take.kp T.b_L_take_2 (pda_cons (pd_var 0) (pda_cons (pd_int) (pda_nil)))) (pd_int)) (pds_one (pds_setIx (pd_op op_mulA opd_mul (pd_lst (pda_cons (pd_tup (pda_cons (pd_int) (pda_cons (pd_int) (pda_nil)))) (pda_nil))) (pd_var 4)) (pd_var 9) (pd_int))) (pds_nil)) (pds_cons (pds_expr (pd_append (pd_var 9) (pda_cons (pd_callTy call_list_of cal_list rfl T.n_list (by decide +kernel) (pda_cons (pd_ix ix_seq opd_ix (pd_var 9) (pd_int)) (pda_nil))) (pda_nil)))) (pds_cons (pds_frz (i := 9) (pds_setLcM (i := 10) (own := [("_law_row", 7)]) rfl sc_L_ringed.nd rfl rfl (sw_true rfl rfl rfl (by decide +kernel)) (pdi_range1 rfl T.n_range (pda_cons (pd_var 6) (pda_nil))) (blkOk_by (own := [("_law_row", 7)]) (by kernel_rfl)) (fun _ _ _ _ _ => pg_name (i := 7) sc_L_ringed.nd rfl (by first | exact .inl rfl | exact .inr rfl)) (tg_name (i := 7) (by decide)) (mon_name (i := 7)) (fun _ _ _ _ _ => pdts_nil) (fun _ _ _ _ _ => pd_call G_L_stop (hr.mono (by decide)) rfl T.g_L_stop T.F_L_stop.kp T.b_L_stop_2 (pda_cons (pd_var 0) (pda_cons (pd_var 4) (pda_nil)))))) (pds_cons (pds_expr (pd_append (pd_var 10) (pda_cons (pd_call G_L_all (hr.mono (by decide)) rfl T.g_L_all T.F_L_all.kp T.b_L_all_2 (pda_cons (pd_ix ix_seq opd_ix (pd_var 10) (pd_int)) (pda_cons (pd_ix ix_seq opd_ix (pd_var 9) (pd_int)) (pda_nil)))) (pda_nil)))) (pds_cons (pds_frz (i := 10) (pds_set (i := 11) sc_L_ringed.nd rfl (.inl rfl) (pd_lstM (pda_nil)))) (pds_cons (pds_for (vs := [7]) rfl (pdi_range1 rfl T.n_range (pda_cons (pd_var 6) (pda_nil))) (pg_name (i := 7) sc_L_ringed.nd rfl (.inl rfl)) (tg_name (i := 7) (by decide)) (pds_cons (pds_set (i := 12) sc_L_ringed.nd rfl (.inl rfl) (pd_lstM (pda_nil))) (pds_cons (pds_for (vs := [13]) rfl (pdi_range1 rfl T.n_range (pda_cons (pd_op op_addD opd_add (pd_int) (pd_call G_L_take (hr.mono (by decide)) rfl T.g_L_take T.F_L_take.kp T.b_L_take_2 (pda_cons (pd_var 0) (pda_cons (pd_int) (pda_nil))))) (pda_nil))) (pg_name (i := 13) sc_L_ringed.nd rfl (.inl rfl)) (tg_name (i := 13) (by decide)) (pds_cons (pds_set (i := 14) sc_L_ringed.nd rfl (.inl rfl) (pd_op op_addD opd_add (pd_ix ix_seq opd_ix (pd_var 10) (pd_var 7)) (pd_ix ix_seq opd_ix (pd_var 10) (pd_op op_addD opd_add (pd_var 7) (pd_int))))) (pds_one (pds_expr (pd_append (pd_var 12) (pda_cons (pd_call G_L_kept_wish (hr.mono (by decide)) rfl T.g_L_kept_wish T.F_L_kept_wish.kp T.b_L_kept_wish_4 (pda_cons (pd_var 0) (pda_cons (pd_var 4) (pda_cons (pd_var 14) (pda_cons (pd_op op_addD opd_add (pd_ix ix_seq opd_ix (pd_var 9) (pd_var 7)) (pd_ix ix_seq opd_ix (pd_var 9) (pd_op op_addD opd_add (pd_var 7) (pd_int)))) (pda_nil)))))) (pda_nil))))))) (pds_one (pds_expr (pd_append (pd_var 11) (pda_cons (pd_tup (pda_cons (pd_ix ix_seq opd_ix (pd_var 8) (pd_var 7)) (pda_cons (pd_ix ix_seq opd_ix (pd_var 8) (pd_op op_modN opd_mod (pd_op op_addD opd_add (pd_var 7) (pd_int)) (pd_var 6))) (pda_cons (pd_frz (pd_var 12)) (pda_nil))))) (pda_nil)))))))) (pds_cons (pds_set (i := 15) sc_L_ringed.nd rfl (.inl rfl) (pd_tup (pda_cons (pd_slice (pd_lst (pda_cons (pd_str) (pda_cons (pd_str) (pda_cons (pd_str) (pda_nil))))) (pdo_none) (pdo_some (pd_var 4))) (pda_cons (pd_slice (pd_lst (pda_cons (pd_str) (pda_cons (pd_str) (pda_cons (pd_str) (pda_cons (pd_str) (pda_cons (pd_str) (pda_cons (pd_str) (pda_nil)))))))) (pdo_none) (pdo_some (pd_var 5))) (pda_cons (pd_frz (pd_var 11)) (pda_nil)))))) (pds_one (pds_ret (pd_lst (pda_cons (pd_var 15) (pda_cons (pd_tup (pda_cons (pd_listR rfl rfl T.n_list rfl T.n_range (pd_var 6)) (pda_cons (pd_var 10) (pda_cons (pd_var 9) (pda_nil))))) (pda_nil))))))))))))))))))
    sem_L_ringed
/-! L_is_whole -/
def sp_L_is_whole : FS := fun ds ms P => match ds with
  | [d] => (∃ a, tyD d = some a) ∧ P (.bl (isW d)) ms
  | _ => False
theorem len_L_is_whole : ∀ ds ms Q, sp_L_is_whole ds ms Q → ds.length = 1 := fun ds ms Q h => by
  unfold sp_L_is_whole at h
  split at h <;> first | rfl | exact h.elim
def t_L_is_whole : DTS := dRet (dAndV (dIsi .int (dVar 0)) (dNotV (dIsi .bool (dVar 0))))
theorem sem_L_is_whole : ∀ ds ms Q, sp_L_is_whole ds ms Q → t_L_is_whole { nx := fun _ m => Q .non m, rt := Q } (startD 1 ds) ms := by
  intro ds ms Q h
  unfold sp_L_is_whole at h
  split at h
  · unfold t_L_is_whole
    exact whole_sem h
  · exact h.elim
theorem ok_L_is_whole (T : Tx P K mg) : FnG P w K mg base 1 T.f_L_is_whole T.d_L_is_whole ["_law_thing"] (spD K sp_L_is_whole) := by
  exact fnG_of (k := 0) (t := t_L_is_whole) T.F_L_is_whole sc_L_is_whole len_L_is_whole
    (fun cdv A outer s H hr => pds_one (pds_ret (pd_and (pd_isi .int (by decide) rfl T.n_isinstance rfl T.n_int (by decide +kernel) (by decide) (by decide) (pd_var 0)) (pd_one (pd_not (pd_isi .bool (by decide) rfl T.n_isinstance rfl T.n_bool (by decide +kernel) (by decide) (by decide) (pd_var 0)))))))
    sem_L_is_whole
/-! L_is_ring -/
def sp_L_is_ring : FS := fun ds ms P => match ds with
  | [d, x] => ∃ (g : Pg) (N : Nat), d = pgD g ∧ AnyX N x ∧ P (.bl (tf (IsRing g x))) ms
  | _ => False
theorem len_L_is_ring : ∀ ds ms Q, sp_L_is_ring ds ms Q → ds.length = 2 := fun ds ms Q h => by
  unfold sp_L_is_ring at h
  split at h <;> first | rfl | exact h.elim
def t_L_is_ring : DTS := dSeq (dIfS (dOr (dNot (dTest (dIsi .list (dVar 1)))) (dOr (dTest (dOp fLt (dCB cLen (aCons (dVar 1) (aNil))) (dC (.int 1)))) (dTest (dOp fGt (dCB cLen (aCons (dVar 1) (aNil))) (dC (.int 12)))))) (dRet (dC (.bl false))) (dNext)) (dSeq (dFor (iSeq (dVar 1)) (sName 2) (dIfS (dOr (dNot (dTest (dCall 1 0 [0] sp_L_is_whole (aCons (dVar 2) (aNil)) (aNil)))) (dOr (dTest (dOp fLt (dVar 2) (dC (.int 0)))) (dTest (dOp fGe (dVar 2) (dCB cLen (aCons (dOp fIx (dVar 0) (dC (.int 2))) (aNil))))))) (dRet (dC (.bl false))) (dNext))) (dSeq (dFor (iRange1 (aCons (dCB cLen (aCons (dVar 1) (aNil))) (aNil))) (sName 3) (dSeq (dAsg (dOp fIx (dVar 1) (dOp fMod (dOp fAdd (dVar 3) (dC (.int 1))) (dCB cLen (aCons (dVar 1) (aNil))))) (sName 4)) (dIfS (dTest (dOp fNe (dOp fIx (dOp fIx (dOp fIx (dVar 0) (dC (.int 2))) (dOp fIx (dVar 1) (dVar 3))) (dC (.int 1))) (dOp fIx (dOp fIx (dOp fIx (dVar 0) (dC (.int 2))) (dVar 4)) (dC (.int 0))))) (dRet (dC (.bl false))) (dNext)))) (dRet (dC (.bl true)))))
theorem rng_natsK (n : Nat) : rng 0 n = (List.range n).map fun (k : Nat) => D.int (k : Int) := by
  unfold rng
  exact List.map_congr_left fun k _ => by rw [Int.zero_add]
theorem natL_at {is : List Nat} {i : Nat} (h : i < is.length) : atI (natL is) (i : Int) = some (.int ((is.getD i 0 : Nat) : Int)) :=
  atI_nat (by unfold natL; rw [List.getElem?_map, (getD_mem 0 h).1]; rfl)
theorem sem_L_is_ring : ∀ ds ms Q, sp_L_is_ring ds ms Q → t_L_is_ring { nx := fun _ m => Q .non m, rt := Q } (startD 5 ds) ms := by
  intro ds ms Q h
  unfold sp_L_is_ring at h
  split at h
  · rename_i d x
    obtain ⟨g, N, rfl, an, h⟩ := h
    obtain ⟨ty, ety⟩ := an.ty
    simp only [startD]
    unfold t_L_is_ring pgD
    walk_at "st"
    cases x with
    | lst xs =>
      obtain ⟨hl, oka⟩ := an.lst
      walk_at "st"
      have lens : ¬ (1 ≤ xs.length ∧ xs.length ≤ 12) → ¬ IsRing g (.lst xs) := by
        rintro n ⟨rows, e, l1, l2, _⟩
        injection e with e
        rw [e, natL_len] at n
        exact n ⟨l1, l2⟩
      by_cases l1 : (xs.length : Int) < 1
      · rw [decide_eq_true l1]
        walk_at "st"
        exact tf_f h (lens (by omega))
      rw [decide_eq_false l1]
      walk_at "st"
      by_cases l2 : (12 : Int) < (xs.length : Int)
      · rw [decide_eq_true l2]
        walk_at "st"
        exact tf_f h (lens (by omega))
      rw [decide_eq_false l2]
      walk_at "st"
      refine loop_allD (isAt (g.rs.length : Int)) (fun ds => ∃ x2 x3 x4, ds = [some (.tup [.lst (g.nm.map D.str), .lst (g.pm.map D.str), .lst (g.rs.map rwD)]), some (.lst xs), x2, x3, x4]) xs _ ⟨_, _, _, rfl⟩ ?_ (fun z ds hI => ?_) (fun z => ?_)
      · rintro x hx ds ⟨x2, x3, x4, rfl⟩ G hG hR
        walk_at "st"
        refine ⟨(oka x hx).ty, ?_⟩
        cases x with
        | int i =>
          rw [show isW (.int i) = true from rfl]
          walk_at "st"
          by_cases i0 : i < 0
          · rw [decide_eq_true i0]
            walk_at "st"
            refine hR ?_
            show (decide (0 ≤ i) && decide (i < (g.rs.length : Int))) = false
            rw [decide_eq_false (by omega)]; rfl
          rw [decide_eq_false i0]
          walk_at "st"
          rw [List.length_map]
          by_cases i1 : (g.rs.length : Int) ≤ i
          · rw [decide_eq_true i1]
            walk_at "st"
            refine hR ?_
            show (decide (0 ≤ i) && decide (i < (g.rs.length : Int))) = false
            rw [decide_eq_false (show ¬ i < (g.rs.length : Int) by omega), Bool.and_false]
          rw [decide_eq_false i1]
          walk_at "st"
          refine hG ?_ _ ⟨_, _, _, rfl⟩
          show (decide (0 ≤ i) && decide (i < (g.rs.length : Int))) = true
          rw [decide_eq_true (show 0 ≤ i by omega), decide_eq_true (show i < (g.rs.length : Int) by omega)]; rfl
        | _ =>
          walk_at "st"
          exact hR rfl
      · obtain ⟨x2, x3, x4, rfl⟩ := hI
        obtain ⟨rows, rfl, hk⟩ := isAts_iff.mp z
        rw [natL_len] at l1 l2
        have hk : ∀ k ∈ rows, k < g.rs.length := fun k h => by have := hk k h; omega
        walk_at "st"
        refine w_mRng ⟨by omega, by rw [natL_len]; omega⟩ ?_
        rw [Int.toNat_natCast, natL_len, rng_natsK]
        refine loop_all (fun (k : Nat) => D.int (k : Int)) (fun i => decide ((rowAt g (rows.getD i 0)).t = (rowAt g (rows.getD ((i + 1) % rows.length) 0)).s)) (fun ds => ∃ x2 x3 x4, ds = [some (.tup [.lst (g.nm.map D.str), .lst (g.pm.map D.str), .lst (g.rs.map rwD)]), some (.lst (natL rows)), x2, x3, x4]) (List.range rows.length) _ ⟨_, _, _, rfl⟩ ?_ (fun z ds hI => ?_) (fun z => ?_)
        · rintro i hi ds ⟨x2, x3, x4, rfl⟩ G hG hR
          have hi := List.mem_range.mp hi
          have hi2 : (i + 1) % rows.length < rows.length := Nat.mod_lt _ (by omega)
          have r1 := hk _ (getD_mem 0 hi).2
          have r2 := hk _ (getD_mem 0 hi2).2
          walk_at "st"
          rw [natL_len]
          refine ⟨by omega, ?_⟩
          rw [fmod_nat]
          refine w_ix_l (natL_at hi2) ?_
          walk_at "st"
          refine w_ix_l (natL_at hi) ?_
          walk_at "st"
          refine w_ix_l (rowAt_ix r1) ?_
          unfold rwD
          walk_at "st"
          refine w_ix_l (rowAt_ix r2) ?_
          unfold rwD
          walk_at "st"
          by_cases e : (rowAt g (rows.getD i 0)).t = (rowAt g (rows.getD ((i + 1) % rows.length) 0)).s
          · refine w_iteF (by rw [e]; simp) ?_
            walk_at "st"
            exact hG (decide_eq_true e) _ ⟨_, _, _, rfl⟩
          · refine w_iteT (by rw [Bool.not_eq_true', beq_eq_false_iff_ne]; exact e) ?_
            walk_at "st"
            exact hR (decide_eq_false e)
        · obtain ⟨x2, x3, x4, rfl⟩ := hI
          walk_at "st"
          refine tf_t h ⟨rows, rfl, by omega, by omega, hk, fun i hi => ?_⟩
          exact of_decide_eq_true (List.all_eq_true.mp z i (List.mem_range.mpr hi))
        · refine tf_f h fun ⟨rows', e, _, _, _, c⟩ => ?_
          injection e with e
          have := natL_inj e
          subst this
          rw [List.all_eq_true.mpr fun i hi => decide_eq_true (c i (List.mem_range.mp hi))] at z
          cases z
      · refine tf_f h fun ⟨rows, e, _, _, hk, _⟩ => ?_
        injection e with e
        rw [isAts_iff.mpr ⟨rows, e, fun k h => by have := hk k h; omega⟩] at z
        cases z
    | _ => cases ety <;> (walk_at "st"; exact tf_f h fun ⟨_, e, _⟩ => by cases e)
  · exact h.elim
theorem ok_L_is_ring (T : Tx P K mg) : FnG P w K mg base 2 T.f_L_is_ring T.d_L_is_ring ["_law_program", "_law_thing"] (spD K sp_L_is_ring) := by
  have G_L_is_whole := ok_L_is_whole (P := P) (w := w) (base := base) T
  exact fnG_of (k := 1) (t := t_L_is_ring) T.F_L_is_ring sc_L_is_ring len_L_is_ring
    (fun cdv A outer s H hr => pds_cons (pds_if (pdt_w (pdw_or (pdt_not (pdt_val (pd_isi .list (by decide) rfl T.n_isinstance rfl T.n_list (by decide +kernel) (by decide) (by decide) (pd_var 1)))) (pdw_or (pdt_cmp op_lt opd_lt (pd_callB call_len cal_len rfl T.n_len (by decide +kernel) (pda_cons (pd_var 1) (pda_nil))) (pd_int)) (pdw_or1 (pdt_cmp op_gt opd_gt (pd_callB call_len cal_len rfl T.n_len (by decide +kernel) (pda_cons (pd_var 1) (pda_nil))) (pd_int)))))) (pds_one (pds_ret (pd_bl))) (pds_nil)) (pds_cons (pds_for (vs := [2]) rfl (pdi_list (pd_var 1)) (pg_name (i := 2) sc_L_is_ring.nd rfl (.inl rfl)) (tg_name (i := 2) (by decide)) (pds_one (pds_if (pdt_w (pdw_or (pdt_not (pdt_val (pd_call G_L_is_whole (hr.mono (by decide)) rfl T.g_L_is_whole T.F_L_is_whole.kp T.b_L_is_whole_1 (pda_cons (pd_var 2) (pda_nil))))) (pdw_or (pdt_cmp op_lt opd_lt (pd_var 2) (pd_int)) (pdw_or1 (pdt_cmp op_ge opd_ge (pd_var 2) (pd_callB call_len cal_len rfl T.n_len (by decide +kernel) (pda_cons (pd_ix ix_seq opd_ix (pd_var 0) (pd_int)) (pda_nil)))))))) (pds_one (pds_ret (pd_bl))) (pds_nil)))) (pds_cons (pds_for (vs := [3]) rfl (pdi_range1 rfl T.n_range (pda_cons (pd_callB call_len cal_len rfl T.n_len (by decide +kernel) (pda_cons (pd_var 1) (pda_nil))) (pda_nil))) (pg_name (i := 3) sc_L_is_ring.nd rfl (.inl rfl)) (tg_name (i := 3) (by decide)) (pds_cons (pds_set (i := 4) sc_L_is_ring.nd rfl (.inl rfl) (pd_ix ix_seq opd_ix (pd_var 1) (pd_op op_modN opd_mod (pd_op op_addD opd_add (pd_var 3) (pd_int)) (pd_callB call_len cal_len rfl T.n_len (by decide +kernel) (pda_cons (pd_var 1) (pda_nil)))))) (pds_one (pds_if (pdt_cmp (op_neF hr.r.units) opd_ne (pd_ix ix_seq opd_ix (pd_ix ix_seq opd_ix (pd_ix ix_seq opd_ix (pd_var 0) (pd_int)) (pd_ix ix_seq opd_ix (pd_var 1) (pd_var 3))) (pd_int)) (pd_ix ix_seq opd_ix (pd_ix ix_seq opd_ix (pd_ix ix_seq opd_ix (pd_var 0) (pd_int)) (pd_var 4)) (pd_int))) (pds_one (pds_ret (pd_bl))) (pds_nil))))) (pds_one (pds_ret (pd_bl))))))
    sem_L_is_ring
/-! L_suits -/
def sp_L_suits : FS := fun ds ms P => match ds with
  | [.lst xs, .tup [.int a, .int b], .lst ys] => ∃ (ws : List Wi) (ns : List (Int × Int)), xs = ws.map wiD ∧ ys = ns.map fr ∧ Low (a, b) ∧ FB 150 150 (a, b) ∧ (∀ n ∈ ns, Low n) ∧ (∀ w ∈ ws, FitG w.l w.fs ns) ∧ P (.bl (tf (∀ w ∈ ws, Wan w (a, b) ns))) ms
  | _ => False
theorem len_L_suits : ∀ ds ms Q, sp_L_suits ds ms Q → ds.length = 3 := fun ds ms Q h => by
  unfold sp_L_suits at h
  split at h <;> first | rfl | exact h.elim
def t_L_suits : DTS := dSeq (dFor (iSeq (dVar 0)) (sTup 2 (sCons (sName 3) (sCons (sName 4) (sNil)))) (dSeq (dAsg (dCall 2 0 [0, 1] sp_L_product (aCons (dTup (aCons (dOp fIx (dVar 4) (dC (.int 0))) (aCons (dC (.int 1)) (aNil)))) (aCons (dVar 1) (aNil))) (aNil)) (sName 5)) (dSeq (dAsg (dCall 2 0 [0, 1] sp_L_sum (aCons (dVar 5) (aCons (dCall 2 0 [0, 1] sp_L_worth (aCons (dOp fAdd (dLst (aCons (dC (.int 0)) (aNil))) (dSl (dVar 4) (oSome (dC (.int 1))) (oNone))) (aCons (dVar 2) (aNil))) (aNil)) (aNil))) (aNil)) (sName 6)) (dIfS (dOr (dTest (dOp fLt (dOp fIx (dVar 6) (dC (.int 0))) (dC (.int 0)))) (dAnd (dTest (dOp fEq (dVar 3) (dC (.str "just")))) (dTest (dOp fNe (dOp fIx (dVar 6) (dC (.int 0))) (dC (.int 0)))))) (dRet (dC (.bl false))) (dNext))))) (dRet (dC (.bl true)))
theorem sem_L_suits : ∀ ds ms Q, sp_L_suits ds ms Q → t_L_suits { nx := fun _ m => Q .non m, rt := Q } (startD 7 ds) ms := by
  intro ds ms Q h
  unfold sp_L_suits at h
  split at h
  · rename_i xs a b ys
    obtain ⟨ws, ns, rfl, rfl, lm, fm, ln, hw, h⟩ := h
    simp only [startD]
    unfold t_L_suits
    walk_at "st"
    refine loop_all wiD (fun w => tf (Wan w (a, b) ns)) (fun ds => ∃ x3 x4 x5 x6, ds = [some (.lst (ws.map wiD)), some (.tup [.int a, .int b]), some (.lst (ns.map fr)), x3, x4, x5, x6]) ws _ ⟨_, _, _, _, rfl⟩ ?_ (fun z ds hI => ?_) (fun z => ?_)
    · rintro w hw' ds ⟨x3, x4, x5, x6, rfl⟩ G hG hR
      have hF := hw w hw'
      have h0 := hF.nil
      obtain ⟨L, N, k1, k2, k3, k4⟩ := hF.ex
      have one : ((w.l, 1) : Int × Int).2 ≠ 0 := by show (1 : Int) ≠ 0; decide
      have hm := fb_mul (fb_int k1) fm
      have lmm : Low (mulT (w.l, 1) (a, b)) := low_mul one lm.ne
      have hv := fb_worF h0
      obtain ⟨lv0, ev0⟩ := val_wgo w.fs ns (0, 1) (low_int 0) ln
      have lv : Low (wor 0 w.fs ns) := lv0
      have ev : val (wor 0 w.fs ns) = val (0, 1) + dtR w.fs (ns.map val) := ev0
      have lc : Low (addT (mulT (w.l, 1) (a, b)) (wor 0 w.fs ns)) := low_add lmm.ne lv.ne
      have vc : val (addT (mulT (w.l, 1) (a, b)) (wor 0 w.fs ns)) = (w.l : Rat) * val (a, b) + dtR w.fs (ns.map val) := by
        rw [val_add lmm.ne lv.ne, val_mul one lm.ne, val_int, ev, val_int, Rat.intCast_zero]
        grind
      have hl8 := hF.len
      unfold wiD
      walk_at "st"
      refine ⟨⟨one, lm.ne, k1.mono (by omega), (show Bd 1 (1 : Int) by unfold Bd; decide).mono (by decide), fm.top.mono (by decide), fm.bot.mono (by decide)⟩, ?_⟩
      walk_at "st"
      rw [cut_1]
      refine ⟨size_ok (by rw [List.length_map, List.length_singleton]; omega), ?_⟩
      walk_at "st"
      refine ⟨0, w.fs, ns, rfl, rfl, h0, ?_⟩
      walk_at "st"
      refine ⟨⟨lmm.ne, lv.ne, hm.top.mono (by omega), hm.bot.mono (by omega), hv.top.mono (by decide), hv.bot.mono (by decide)⟩, ?_⟩
      have ec : addT ((mulT (w.l, 1) (a, b)).1, (mulT (w.l, 1) (a, b)).2) ((wor 0 w.fs ns).1, (wor 0 w.fs ns).2) = addT (mulT (w.l, 1) (a, b)) (wor 0 w.fs ns) := rfl
      rw [ec]
      generalize addT (mulT (w.l, 1) (a, b)) (wor 0 w.fs ns) = c at lc vc
      unfold fr
      walk_at "st"
      by_cases c0 : c.1 < 0
      · rw [decide_eq_true c0]
        walk_at "st"
        refine hR (tf_no fun W => ?_)
        have := (val_nonneg lc.pos).mp (by rw [vc]; exact W.nn)
        omega
      rw [decide_eq_false c0]
      have nn : 0 ≤ (w.l : Rat) * val (a, b) + dtR w.fs (ns.map val) := by rw [← vc]; exact (val_nonneg lc.pos).mpr (by omega)
      cases hj : w.j with
      | false =>
        rw [show wdD false = D.str (Str.ofString "least") from rfl]
        walk_at "st"
        exact hG (tf_yes ⟨nn, fun z => by rw [hj] at z; cases z⟩) _ ⟨_, _, _, _, rfl⟩
      | true =>
        rw [show wdD true = D.str (Str.ofString "just") from rfl]
        walk_at "st"
        have cz : c = (0, 1) ↔ c.1 = 0 := ⟨fun z => by rw [z], fun z => (val_nought lc).mp (by unfold val; rw [z, Rat.intCast_zero]; grind)⟩
        by_cases c1 : c.1 = 0
        · refine w_iteF (by rw [c1]; rfl) ?_
          walk_at "st"
          exact hG (tf_yes ⟨nn, fun _ => by rw [← vc]; exact (val_nought lc).mpr (cz.mpr c1)⟩) _ ⟨_, _, _, _, rfl⟩
        · refine w_iteT (by rw [Bool.not_eq_true', beq_eq_false_iff_ne]; exact c1) ?_
          walk_at "st"
          exact hR (tf_no fun W => c1 (cz.mp ((val_nought lc).mp (by rw [vc]; exact W.z hj))))
    · obtain ⟨x3, x4, x5, x6, rfl⟩ := hI
      walk_at "st"
      exact tf_t h ((tfs_all _ _).mp z)
    · refine tf_f h fun G => ?_
      rw [(tfs_all _ _).mpr G] at z
      cases z
  · exact h.elim
theorem ok_L_suits (T : Tx P K mg) : FnG P w K mg base 4 T.f_L_suits T.d_L_suits ["_law_wishes", "_law_many", "_law_some"] (spD K sp_L_suits) := by
  have G_L_product := ok_L_product (P := P) (w := w) (base := base) T
  have G_L_sum := ok_L_sum (P := P) (w := w) (base := base) T
  have G_L_worth := ok_L_worth (P := P) (w := w) (base := base) T
  exact fnG_of (k := 3) (t := t_L_suits) T.F_L_suits sc_L_suits len_L_suits
    (fun cdv A outer s H hr => pds_cons (pds_for (vs := [3, 4]) rfl (pdi_list (pd_var 0)) (pg_tup rfl (pgs_cons (pg_name (i := 3) sc_L_suits.nd rfl (.inl rfl)) (pgs_cons (pg_name (i := 4) sc_L_suits.nd rfl (.inl rfl)) (pgs_nil)))) (tg_tup (tgs_cons (tg_name (i := 3) (by decide)) (tgs_cons (tg_name (i := 4) (by decide)) (tgs_nil) (mon_name (i := 4))) (mon_name (i := 3)))) (pds_cons (pds_set (i := 5) sc_L_suits.nd rfl (.inl rfl) (pd_call G_L_product (hr.mono (by decide)) rfl T.g_L_product T.F_L_product.kp T.b_L_product_2 (pda_cons (pd_tup (pda_cons (pd_ix ix_seq opd_ix (pd_var 4) (pd_int)) (pda_cons (pd_int) (pda_nil)))) (pda_cons (pd_var 1) (pda_nil))))) (pds_cons (pds_set (i := 6) sc_L_suits.nd rfl (.inl rfl) (pd_call G_L_sum (hr.mono (by decide)) rfl T.g_L_sum T.F_L_sum.kp T.b_L_sum_2 (pda_cons (pd_var 5) (pda_cons (pd_call G_L_worth (hr.mono (by decide)) rfl T.g_L_worth T.F_L_worth.kp T.b_L_worth_2 (pda_cons (pd_op op_addD opd_add (pd_lst (pda_cons (pd_int) (pda_nil))) (pd_slice (pd_var 4) (pdo_some (pd_int)) (pdo_none))) (pda_cons (pd_var 2) (pda_nil)))) (pda_nil))))) (pds_one (pds_if (pdt_w (pdw_or (pdt_cmp op_lt opd_lt (pd_ix ix_seq opd_ix (pd_var 6) (pd_int)) (pd_int)) (pdw_or1 (pdt_w (pdw_and (pdt_cmp (op_eqF hr.r.units) opd_eq (pd_var 3) (pd_str)) (pdw_and1 (pdt_cmp (op_neF hr.r.units) opd_ne (pd_ix ix_seq opd_ix (pd_var 6) (pd_int)) (pd_int)))))))) (pds_one (pds_ret (pd_bl))) (pds_nil)))))) (pds_one (pds_ret (pd_bl))))
    sem_L_suits
/-! L_granted -/
def sp_L_granted : FS := fun ds ms P => match ds with
  | [.lst xs, .lst ys] => ∃ (ws : List Wi) (ns : List (Int × Int)), xs = ws.map wiD ∧ ys = ns.map fr ∧ (∀ n ∈ ns, Low n) ∧ (∀ w ∈ ws, FitG w.l w.fs ns) ∧ P (.bl (tf (∀ w ∈ ws, Wan w (1, 1) ns))) ms
  | _ => False
theorem len_L_granted : ∀ ds ms Q, sp_L_granted ds ms Q → ds.length = 2 := fun ds ms Q h => by
  unfold sp_L_granted at h
  split at h <;> first | rfl | exact h.elim
def t_L_granted : DTS := dSeq (dFor (iSeq (dVar 0)) (sTup 2 (sCons (sName 2) (sCons (sName 3) (sNil)))) (dSeq (dAsg (dCall 2 0 [0, 1] sp_L_worth (aCons (dVar 3) (aCons (dVar 1) (aNil))) (aNil)) (sName 4)) (dIfS (dOr (dTest (dOp fLt (dOp fIx (dVar 4) (dC (.int 0))) (dC (.int 0)))) (dAnd (dTest (dOp fEq (dVar 2) (dC (.str "just")))) (dTest (dOp fNe (dOp fIx (dVar 4) (dC (.int 0))) (dC (.int 0)))))) (dRet (dC (.bl false))) (dNext)))) (dRet (dC (.bl true)))
theorem sem_L_granted : ∀ ds ms Q, sp_L_granted ds ms Q → t_L_granted { nx := fun _ m => Q .non m, rt := Q } (startD 5 ds) ms := by
  intro ds ms Q h
  unfold sp_L_granted at h
  split at h
  · rename_i xs ys
    obtain ⟨ws, ns, rfl, rfl, ln, hw, h⟩ := h
    simp only [startD]
    unfold t_L_granted
    walk_at "st"
    refine loop_all wiD (fun w => tf (Wan w (1, 1) ns)) (fun ds => ∃ x2 x3 x4, ds = [some (.lst (ws.map wiD)), some (.lst (ns.map fr)), x2, x3, x4]) ws _ ⟨_, _, _, rfl⟩ ?_ (fun z ds hI => ?_) (fun z => ?_)
    · rintro w hw' ds ⟨x2, x3, x4, rfl⟩ G hG hR
      have hF := hw w hw'
      obtain ⟨lc, vc0⟩ := val_wgo w.fs ns (w.l, 1) (low_int w.l) ln
      have lc : Low (wor w.l w.fs ns) := lc
      have vc : val (wor w.l w.fs ns) = (w.l : Rat) * val (1, 1) + dtR w.fs (ns.map val) := by
        rw [show wor w.l w.fs ns = worGo (w.l, 1) w.fs ns from rfl, vc0, val_int, val_int, Rat.intCast_one]; grind
      unfold wiD
      walk_at "st"
      refine ⟨w.l, w.fs, ns, rfl, rfl, hF, ?_⟩
      generalize wor w.l w.fs ns = c at lc vc
      unfold fr
      walk_at "st"
      by_cases c0 : c.1 < 0
      · rw [decide_eq_true c0]
        walk_at "st"
        refine hR (tf_no fun W => ?_)
        have := (val_nonneg lc.pos).mp (by rw [vc]; exact W.nn)
        omega
      rw [decide_eq_false c0]
      have nn : 0 ≤ (w.l : Rat) * val (1, 1) + dtR w.fs (ns.map val) := by rw [← vc]; exact (val_nonneg lc.pos).mpr (by omega)
      cases hj : w.j with
      | false =>
        rw [show wdD false = D.str (Str.ofString "least") from rfl]
        walk_at "st"
        exact hG (tf_yes ⟨nn, fun z => by rw [hj] at z; cases z⟩) _ ⟨_, _, _, rfl⟩
      | true =>
        rw [show wdD true = D.str (Str.ofString "just") from rfl]
        walk_at "st"
        have cz : c = (0, 1) ↔ c.1 = 0 := ⟨fun z => by rw [z], fun z => (val_nought lc).mp (by unfold val; rw [z, Rat.intCast_zero]; grind)⟩
        by_cases c1 : c.1 = 0
        · refine w_iteF (by rw [c1]; rfl) ?_
          walk_at "st"
          exact hG (tf_yes ⟨nn, fun _ => by rw [← vc]; exact (val_nought lc).mpr (cz.mpr c1)⟩) _ ⟨_, _, _, rfl⟩
        · refine w_iteT (by rw [Bool.not_eq_true', beq_eq_false_iff_ne]; exact c1) ?_
          walk_at "st"
          exact hR (tf_no fun W => c1 (cz.mp ((val_nought lc).mp (by rw [vc]; exact W.z hj))))
    · obtain ⟨x2, x3, x4, rfl⟩ := hI
      walk_at "st"
      exact tf_t h ((tfs_all _ _).mp z)
    · refine tf_f h fun G => ?_
      rw [(tfs_all _ _).mpr G] at z
      cases z
  · exact h.elim
theorem ok_L_granted (T : Tx P K mg) : FnG P w K mg base 4 T.f_L_granted T.d_L_granted ["_law_wishes", "_law_some"] (spD K sp_L_granted) := by
  have G_L_worth := ok_L_worth (P := P) (w := w) (base := base) T
  exact fnG_of (k := 3) (t := t_L_granted) T.F_L_granted sc_L_granted len_L_granted
    (fun cdv A outer s H hr => pds_cons (pds_for (vs := [2, 3]) rfl (pdi_list (pd_var 0)) (pg_tup rfl (pgs_cons (pg_name (i := 2) sc_L_granted.nd rfl (.inl rfl)) (pgs_cons (pg_name (i := 3) sc_L_granted.nd rfl (.inl rfl)) (pgs_nil)))) (tg_tup (tgs_cons (tg_name (i := 2) (by decide)) (tgs_cons (tg_name (i := 3) (by decide)) (tgs_nil) (mon_name (i := 3))) (mon_name (i := 2)))) (pds_cons (pds_set (i := 4) sc_L_granted.nd rfl (.inl rfl) (pd_call G_L_worth (hr.mono (by decide)) rfl T.g_L_worth T.F_L_worth.kp T.b_L_worth_2 (pda_cons (pd_var 3) (pda_cons (pd_var 1) (pda_nil))))) (pds_one (pds_if (pdt_w (pdw_or (pdt_cmp op_lt opd_lt (pd_ix ix_seq opd_ix (pd_var 4) (pd_int)) (pd_int)) (pdw_or1 (pdt_w (pdw_and (pdt_cmp (op_eqF hr.r.units) opd_eq (pd_var 2) (pd_str)) (pdw_and1 (pdt_cmp (op_neF hr.r.units) opd_ne (pd_ix ix_seq opd_ix (pd_var 4) (pd_int)) (pd_int)))))))) (pds_one (pds_ret (pd_bl))) (pds_nil))))) (pds_one (pds_ret (pd_bl))))
    sem_L_granted
/-! L_is_fraction -/
theorem low_self {a b : Int} (hb : 1 ≤ b) : eqD (fr (lowT a b)) (.tup [.int a, .int b]) = decide (Int.gcd a b = 1) := by
  show (((lowT a b).1 == a) && (((lowT a b).2 == b) && true)) = _
  have hs : sgcd a b = (Int.gcd a b : Int) := by unfold sgcd; rw [if_neg (by omega)]
  by_cases hg : Int.gcd a b = 1
  · rw [decide_eq_true hg]
    have e : lowT a b = (a, b) := by unfold lowT; rw [hs, hg]; simp
    rw [e]
    simp
  · rw [decide_eq_false hg]
    obtain ⟨x, y, e, f1, f2, p, _, _⟩ := lowT_spec (a := a) (show b ≠ 0 by omega)
    rw [e]
    have : ¬ y = b := fun hy => by
      subst hy
      rw [hs] at f2
      have h1 : (1 : Int) * y = (Int.gcd a y : Int) * y := by rw [Int.one_mul]; exact f2
      have h2 := Int.eq_of_mul_eq_mul_right (show y ≠ 0 by omega) h1
      omega
    have e2 : (y == b) = false := by simp [this]
    show ((x == a) && ((y == b) && true)) = false
    rw [e2]
    simp
def sp_L_is_fraction : FS := fun ds ms P => match ds with
  | [d] => OkF d ∧ P (.bl (isF d)) ms
  | _ => False
theorem len_L_is_fraction : ∀ ds ms Q, sp_L_is_fraction ds ms Q → ds.length = 1 := fun ds ms Q h => by
  unfold sp_L_is_fraction at h
  split at h <;> first | rfl | exact h.elim
def t_L_is_fraction : DTS := dSeq (dIfS (dOr (dNot (dTest (dIsi .tuple (dVar 0)))) (dTest (dOp fNe (dCB cLen (aCons (dVar 0) (aNil))) (dC (.int 2))))) (dRet (dC (.bl false))) (dNext)) (dSeq (dFor (iTupD (dVar 0)) (sName 1) (dIfS (dOr (dNot (dTest (dIsi .int (dVar 1)))) (dTest (dIsi .bool (dVar 1)))) (dRet (dC (.bl false))) (dNext))) (dRet (dAndV (dOp fGt (dOp fIx (dVar 0) (dC (.int 1))) (dC (.int 0))) (dOp fEq (dCall 2 0 [0, 1] sp_L_low (aCons (dOp fIx (dVar 0) (dC (.int 0))) (aCons (dOp fIx (dVar 0) (dC (.int 1))) (aNil))) (aNil)) (dVar 0)))))
theorem isF_l {ys : List D} (h : ys.length ≠ 2) : isF (.tup ys) = false := by
  match ys, h with
  | [], _ => rfl
  | [x], _ => cases x <;> rfl
  | [_, _], h => exact absurd rfl h
  | x :: y :: z :: r, _ => cases x <;> cases y <;> rfl
theorem sem_L_is_fraction : ∀ ds ms Q, sp_L_is_fraction ds ms Q → t_L_is_fraction { nx := fun _ m => Q .non m, rt := Q } (startD 2 ds) ms := by
  intro ds ms Q h
  unfold sp_L_is_fraction at h
  split at h
  · rename_i d
    obtain ⟨ok, h⟩ := h
    obtain ⟨a, e⟩ := ok.ty
    simp only [startD]
    unfold t_L_is_fraction
    walk_at "st"
    cases d with
    | tup ys =>
      walk_at "st"
      by_cases h2 : ys.length ≠ 2
      · refine w_iteT (by rw [Bool.not_eq_true', beq_eq_false_iff_ne]; omega) ?_
        walk_at "st"
        rw [isF_l h2] at h
        exact h
      have h2 : ys.length = 2 := by omega
      refine w_iteF (by rw [h2]; rfl) ?_
      match ys, h2 with
      | [x, y], _ =>
      obtain ⟨tx, ty⟩ := ok.two x y rfl
      walk_at "st"
      refine loop_allD isW (fun ds => ∃ x1, ds = [some (.tup [x, y]), x1]) [x, y] _ ⟨_, rfl⟩ ?_ (fun z ds hI => ?_) (fun z => ?_)
      · rintro z hz ds ⟨x1, rfl⟩ G hG hR
        have hz : ∃ a, tyD z = some a := by
          simp only [List.mem_cons, List.not_mem_nil, or_false] at hz
          rcases hz with rfl | rfl
          · exact tx
          · exact ty
        obtain ⟨b, hz⟩ := hz
        walk_at "st"
        cases z with
        | int i =>
          walk_at "st"
          exact hG rfl _ ⟨_, rfl⟩
        | _ => cases hz <;> (walk_at "st"; exact hR rfl)
      · obtain ⟨x1, rfl⟩ := hI
        have hx : isW x = true := List.all_eq_true.mp z x (by simp)
        have hy : isW y = true := List.all_eq_true.mp z y (by simp)
        cases x <;> cases hx
        cases y <;> cases hy
        rename_i a b _
        have hbd := ok.bd a b rfl
        have e : isF (.tup [.int a, .int b]) = (decide (1 ≤ b) && decide (Int.gcd a b = 1)) := rfl
        rw [e] at h
        walk_at "st"
        by_cases hb : 0 < b
        · rw [decide_eq_true hb]
          walk_at "st"
          refine ⟨by omega, hbd.mono (by decide), ?_⟩
          walk_at "st"
          refine (show ShD _ ∧ ShD _ ∧ _ from ⟨⟨_, rfl, rfl⟩, ⟨_, rfl, rfl⟩, ?_⟩)
          rw [low_self (by omega)]
          rw [decide_eq_true (show 1 ≤ b by omega), Bool.true_and] at h
          exact h
        · rw [decide_eq_false hb]
          walk_at "st"
          rw [decide_eq_false (show ¬ 1 ≤ b by omega), Bool.false_and] at h
          exact h
      · have : isF (.tup [x, y]) = false := by
          by_cases hx : isW x = true
          · by_cases hy : isW y = true
            · rw [List.all_cons, List.all_cons, List.all_nil, hx, hy] at z
              cases z
            · exact isF_n (.inr (by simpa using hy))
          · exact isF_n (.inl (by simpa using hx))
        rw [this] at h
        exact h
    | _ => cases e <;> (walk_at "st"; exact h)
  · exact h.elim
theorem ok_L_is_fraction (T : Tx P K mg) : FnG P w K mg base 2 T.f_L_is_fraction T.d_L_is_fraction ["_law_thing"] (spD K sp_L_is_fraction) := by
  have G_L_low := ok_L_low (P := P) (w := w) (base := base) T
  exact fnG_of (k := 1) (t := t_L_is_fraction) T.F_L_is_fraction sc_L_is_fraction len_L_is_fraction
    (fun cdv A outer s H hr => pds_cons (pds_if (pdt_w (pdw_or (pdt_not (pdt_val (pd_isi .tuple (by decide) rfl T.n_isinstance rfl T.n_tuple (by decide +kernel) (by decide) (by decide) (pd_var 0)))) (pdw_or1 (pdt_cmp (op_neF hr.r.units) opd_ne (pd_callB call_len cal_len rfl T.n_len (by decide +kernel) (pda_cons (pd_var 0) (pda_nil))) (pd_int))))) (pds_one (pds_ret (pd_bl))) (pds_nil)) (pds_cons (pds_for (vs := [1]) rfl (pdi_tup (pd_var 0)) (pg_name (i := 1) sc_L_is_fraction.nd rfl (.inl rfl)) (tg_name (i := 1) (by decide)) (pds_one (pds_if (pdt_w (pdw_or (pdt_not (pdt_val (pd_isi .int (by decide) rfl T.n_isinstance rfl T.n_int (by decide +kernel) (by decide) (by decide) (pd_var 1)))) (pdw_or1 (pdt_val (pd_isi .bool (by decide) rfl T.n_isinstance rfl T.n_bool (by decide +kernel) (by decide) (by decide) (pd_var 1)))))) (pds_one (pds_ret (pd_bl))) (pds_nil)))) (pds_one (pds_ret (pd_and (pd_cmp op_gt opd_gt (pd_ix ix_seq opd_ix (pd_var 0) (pd_int)) (pd_int)) (pd_one (pd_cmp (op_eqF hr.r.units) opd_eq (pd_call G_L_low (hr.mono (by decide)) rfl T.g_L_low T.F_L_low.kp T.b_L_low_2 (pda_cons (pd_ix ix_seq opd_ix (pd_var 0) (pd_int)) (pda_cons (pd_ix ix_seq opd_ix (pd_var 0) (pd_int)) (pda_nil)))) (pd_var 0))))))))
    sem_L_is_fraction
/-! L_are_fractions -/
def sp_L_are_fractions : FS := fun ds ms P => match ds with
  | [.int n, d] => ∃ N, AnyX N d ∧ N ≤ 4000 ∧ P (.bl (tf (Fra n d))) ms
  | _ => False
theorem len_L_are_fractions : ∀ ds ms Q, sp_L_are_fractions ds ms Q → ds.length = 2 := fun ds ms Q h => by
  unfold sp_L_are_fractions at h
  split at h <;> first | rfl | exact h.elim
def t_L_are_fractions : DTS := dSeq (dIfS (dOr (dNot (dTest (dIsi .list (dVar 1)))) (dTest (dOp fNe (dCB cLen (aCons (dVar 1) (aNil))) (dVar 0)))) (dRet (dC (.bl false))) (dNext)) (dRet (dOp fEq (dLc (iSeq (dVar 1)) (sName 2) (dNot (dTest (dCall 1 0 [0] sp_L_is_fraction (aCons (dVar 2) (aNil)) (aNil)))) (dVar 2) [2]) (dLst (aNil))))
theorem sem_L_are_fractions : ∀ ds ms Q, sp_L_are_fractions ds ms Q → t_L_are_fractions { nx := fun _ m => Q .non m, rt := Q } (startD 3 ds) ms := by
  intro ds ms Q h
  unfold sp_L_are_fractions at h
  split at h
  · rename_i n d
    obtain ⟨N, an, hN, h⟩ := h
    obtain ⟨a, e⟩ := an.ty
    simp only [startD]
    unfold t_L_are_fractions
    walk_at "st"
    cases d with
    | lst xs =>
      obtain ⟨hl, ok⟩ := an.lst
      walk_at "st"
      cases hb : (xs.length : Int) == n with
      | false =>
        refine w_iteT rfl ?_
        walk_at "st"
        refine tf_f h fun ⟨ss, e1, e2, _⟩ => ?_
        injection e1 with e1
        rw [e1, List.length_map, beq_eq_false_iff_ne] at hb
        exact hb e2
      | true =>
        refine w_iteF rfl ?_
        walk_at "st"
        refine comp_filt (fun x => !isF x) (fun x => x) xs [] _ (by rw [List.length_nil]; omega) (fun x hx K L h1 h2 => ?_) ?_
        · walk_at "st"
          refine ⟨(ok x hx).okF hN, ?_⟩
          cases hf : isF x with
          | true =>
            walk_at "st"
            exact h2 (by rw [hf]; rfl)
          | false =>
            walk_at "st"
            exact h1 (by rw [hf]; rfl)
        rw [List.nil_append]
        walk_at "st"
        rw [filt_empty isF xs]
        refine tf_e h ?_
        rw [isFs_iff]
        refine ⟨fun ⟨ss, e1, l⟩ => ⟨ss, by rw [e1], ?_, l⟩, fun ⟨ss, e1, _, l⟩ => ?_⟩
        · have := beq_iff_eq.mp hb
          rw [e1, List.length_map] at this
          exact this
        · injection e1 with e1
          exact ⟨ss, e1, l⟩
    | _ => cases e <;> (walk_at "st"; exact tf_f h fun ⟨_, e1, _⟩ => by cases e1)
  · exact h.elim
theorem ok_L_are_fractions (T : Tx P K mg) : FnG P w K mg base 3 T.f_L_are_fractions T.d_L_are_fractions ["_law_many", "_law_thing"] (spD K sp_L_are_fractions) := by
  have G_L_is_fraction := ok_L_is_fraction (P := P) (w := w) (base := base) T
  exact fnG_of (k := 2) (t := t_L_are_fractions) T.F_L_are_fractions sc_L_are_fractions len_L_are_fractions
    (fun cdv A outer s H hr => pds_cons (pds_if (pdt_w (pdw_or (pdt_not (pdt_val (pd_isi .list (by decide) rfl T.n_isinstance rfl T.n_list (by decide +kernel) (by decide) (by decide) (pd_var 1)))) (pdw_or1 (pdt_cmp (op_neF hr.r.units) opd_ne (pd_callB call_len cal_len rfl T.n_len (by decide +kernel) (pda_cons (pd_var 1) (pda_nil))) (pd_var 0))))) (pds_one (pds_ret (pd_bl))) (pds_nil)) (pds_one (pds_ret (pd_cmp (op_eqF hr.r.units) opd_eq (pd_lc (own := [("_law_part", 2)]) rfl sc_L_are_fractions.nd (pdi_list (pd_var 1)) (blkOk_by (own := [("_law_part", 2)]) (by kernel_rfl)) (fun _ _ _ _ _ => pg_name (i := 2) sc_L_are_fractions.nd rfl (by first | exact .inl rfl | exact .inr rfl)) (tg_name (i := 2) (by decide)) (mon_name (i := 2)) (fun _ _ _ _ _ => pdts_one (pdt_not (pdt_val (pd_call G_L_is_fraction (hr.mono (by decide)) rfl T.g_L_is_fraction T.F_L_is_fraction.kp T.b_L_is_fraction_1 (pda_cons (pd_var 2) (pda_nil)))))) (fun _ _ _ _ _ => pd_var 2)) (pd_lst (pda_nil))))))
    sem_L_are_fractions
/-! L_is_lap -/
def sp_L_is_lap : FS := fun ds ms P => match ds with
  | [d, x] => ∃ (g : Pg), d = pgD g ∧ PgOk 500 g ∧ AnyX 110 x ∧ P (.bl (tf (IsLap g x))) ms
  | _ => False
theorem len_L_is_lap : ∀ ds ms Q, sp_L_is_lap ds ms Q → ds.length = 2 := fun ds ms Q h => by
  unfold sp_L_is_lap at h
  split at h <;> first | rfl | exact h.elim
def t_L_is_lap_c1 : DTS := dSeq (dFor (iEnumD (aCons (dVar 2) (aNil))) (sTup 2 (sCons (sName 6) (sCons (sName 7) (sNil)))) (dSeq (dAsg (dOp fIx (dOp fIx (dOp fIx (dVar 0) (dC (.int 2))) (dVar 7)) (dC (.int 2))) (sName 8)) (dSeq (dIfS (dNot (dTest (dCall 2 0 [0, 1] sp_L_granted (aCons (dVar 8) (aCons (dOp fAdd (dOp fIx (dVar 3) (dVar 6)) (dOp fIx (dVar 3) (dOp fAdd (dVar 6) (dC (.int 1))))) (aNil))) (aNil)))) (dRet (dC (.bl false))) (dNext)) (dIfS (dNot (dTest (dCall 3 0 [0, 1, 2] sp_L_suits (aCons (dVar 8) (aCons (dTup (aCons (dC (.int 0)) (aCons (dC (.int 1)) (aNil)))) (aCons (dOp fAdd (dOp fIx (dVar 4) (dVar 6)) (dOp fIx (dVar 4) (dOp fAdd (dVar 6) (dC (.int 1))))) (aNil)))) (aNil)))) (dRet (dC (.bl false))) (dNext))))) (dSeq (dIfS (dTest (dOp fNe (dOp fIx (dVar 4) (dC (.int 0))) (dOp fIx (dVar 4) (dNeg (dC (.int 1)))))) (dRet (dC (.bl false))) (dNext)) (dRet (dOp fEq (dLc (iZipD (aCons (dOp fIx (dVar 3) (dC (.int 0))) (aCons (dOp fIx (dVar 4) (dC (.int 0))) (aNil)))) (sTup 2 (sCons (sName 9) (sCons (sName 10) (sNil)))) (dYes) (dCall 2 0 [0, 1] sp_L_sum (aCons (dVar 9) (aCons (dVar 10) (aNil))) (aNil)) [9, 10]) (dOp fIx (dVar 3) (dNeg (dC (.int 1)))))))
def t_L_is_lap : DTS := dSeq (dIfS (dOr (dNot (dTest (dIsi .tuple (dVar 1)))) (dOr (dTest (dOp fNe (dCB cLen (aCons (dVar 1) (aNil))) (dC (.int 3)))) (dNot (dTest (dCall 2 0 [0, 1] sp_L_is_ring (aCons (dVar 0) (aCons (dOp fIx (dVar 1) (dC (.int 0))) (aNil))) (aNil)))))) (dRet (dC (.bl false))) (dNext)) (dSeq (dAsg (dVar 1) (sTup 3 (sCons (sName 2) (sCons (sName 3) (sCons (sName 4) (sNil)))))) (dSeq (dFor (iSeq (dLst (aCons (dVar 3) (aCons (dVar 4) (aNil))))) (sName 5) (dSeq (dIfS (dOr (dNot (dTest (dIsi .list (dVar 5)))) (dTest (dOp fNe (dCB cLen (aCons (dVar 5) (aNil))) (dOp fAdd (dCB cLen (aCons (dVar 2) (aNil))) (dC (.int 1)))))) (dRet (dC (.bl false))) (dNext)) (dIfS (dTest (dOp fNe (dLc (iSeq (dVar 5)) (sName 9) (dNot (dTest (dCall 2 0 [0, 1] sp_L_are_fractions (aCons (dCB cLen (aCons (dOp fIx (dVar 0) (dC (.int 0))) (aNil))) (aCons (dVar 9) (aNil))) (aNil)))) (dVar 9) [9]) (dLst (aNil)))) (dRet (dC (.bl false))) (dNext)))) (t_L_is_lap_c1)))
theorem add_iff {a b d : List (Int × Int)} {n : Nat} (ha : a.length = n) (hb : b.length = n) (hd : d.length = n) (la : ∀ x ∈ a, Low x) (lb : ∀ x ∈ b, Low x) (ld : ∀ x ∈ d, Low x) :
    List.zipWith addT a d = b ↔ ∀ i, i < n → val (b.getD i (0, 1)) = val (a.getD i (0, 1)) + val (d.getD i (0, 1)) := by
  have at_ : ∀ i, i < n → ∃ x y z, a[i]? = some x ∧ b[i]? = some y ∧ d[i]? = some z ∧ a.getD i (0, 1) = x ∧ b.getD i (0, 1) = y ∧ d.getD i (0, 1) = z ∧ Low x ∧ Low y ∧ Low z := fun i hi => by
    obtain ⟨e1, m1⟩ := getD_mem (0, 1) (xs := a) (i := i) (by omega)
    obtain ⟨e2, m2⟩ := getD_mem (0, 1) (xs := b) (i := i) (by omega)
    obtain ⟨e3, m3⟩ := getD_mem (0, 1) (xs := d) (i := i) (by omega)
    exact ⟨_, _, _, e1, e2, e3, rfl, rfl, rfl, la _ m1, lb _ m2, ld _ m3⟩
  constructor
  · intro e i hi
    obtain ⟨x, y, z, e1, e2, e3, g1, g2, g3, l1, l2, l3⟩ := at_ i hi
    rw [g1, g2, g3]
    rw [← e, List.getElem?_zipWith, e1, e3] at e2
    have e2 : addT x z = y := Option.some.inj e2
    rw [← e2, val_add l1.ne l3.ne]
  · intro h
    refine List.ext_getElem? fun i => ?_
    by_cases hi : i < n
    · obtain ⟨x, y, z, e1, e2, e3, g1, g2, g3, l1, l2, l3⟩ := at_ i hi
      rw [e2, List.getElem?_zipWith, e1, e3]
      have hv := h i hi
      rw [g1, g2, g3] at hv
      refine congrArg some (val_inj (low_add l1.ne l3.ne) l2 ?_)
      rw [val_add l1.ne l3.ne, hv]
    · rw [List.getElem?_eq_none (by rw [List.length_zipWith]; omega), List.getElem?_eq_none (by omega)]
theorem lap_c1 {Q : D → MS → Prop} {g : Pg} {rows : List Nat} {st dr : List (List (Int × Int))} {m : MS} {x1 x5 x6 x7 x8 x9 x10 : Option D} (ok : PgOk 500 g) (l1 : 1 ≤ rows.length) (l2 : rows.length ≤ 12) (hk : ∀ k ∈ rows, k < g.rs.length) (hs : Sts g 110 rows.length st) (hd : Sts g 110 rows.length dr)
    (h : Q (.bl (tf (Rnd g rows st dr))) m) :
    t_L_is_lap_c1 { nx := fun _ m => Q .non m, rt := Q } [some (.tup [.lst (g.nm.map D.str), .lst (g.pm.map D.str), .lst (g.rs.map rwD)]), x1, some (.lst (natL rows)), some (.lst (st.map frsD)), some (.lst (dr.map frsD)), x5, x6, x7, x8, x9, x10] m := by
  have n3 := ok.nm.l2
  obtain ⟨a0, b0, c0, d0⟩ := hs.at_ (i := 0) (by omega)
  obtain ⟨aE, bE, cE, dE⟩ := hs.at_ (i := rows.length) (Nat.le_refl _)
  obtain ⟨p0, q0, r0, s0⟩ := hd.at_ (i := 0) (by omega)
  obtain ⟨pE, qE, rE, sE⟩ := hd.at_ (i := rows.length) (Nat.le_refl _)
  unfold t_L_is_lap_c1
  walk_at "st"
  rw [enum_nats]
  refine loop_all (fun (i : Nat) => D.tup [.int (i : Int), .int ((rows.getD i 0 : Nat) : Int)]) (fun i => tf ((∀ w ∈ (rowAt g (rows.getD i 0)).ws, Wan w (1, 1) (st.getD i [] ++ st.getD (i + 1) [])) ∧ ∀ w ∈ (rowAt g (rows.getD i 0)).ws, Wan w (0, 1) (dr.getD i [] ++ dr.getD (i + 1) [])))
    (fun ds => ∃ x6 x7 x8, ds = [some (.tup [.lst (g.nm.map D.str), .lst (g.pm.map D.str), .lst (g.rs.map rwD)]), x1, some (.lst (natL rows)), some (.lst (st.map frsD)), some (.lst (dr.map frsD)), x5, x6, x7, x8, x9, x10]) (List.range rows.length) _ ⟨_, _, _, rfl⟩ ?_ (fun z ds hI => ?_) (fun z => ?_)
  · rintro i hi ds ⟨x6, x7, x8, rfl⟩ G hG hR
    have hi := List.mem_range.mp hi
    have hrow := hk _ (getD_mem 0 hi).2
    have ro := ok.ro _ (mem_at (rowAt_at hrow))
    obtain ⟨a1, b1, c1, d1⟩ := hs.at_ (i := i) (by omega)
    obtain ⟨a2, b2, c2, d2⟩ := hs.at_ (i := i + 1) (by omega)
    obtain ⟨a3, b3, c3, d3⟩ := hd.at_ (i := i) (by omega)
    obtain ⟨a4, b4, c4, d4⟩ := hd.at_ (i := i + 1) (by omega)
    walk_at "st"
    refine w_ix_l (rowAt_ix hrow) ?_
    unfold rwD
    walk_at "st"
    refine w_ix_l a1 ?_
    walk_at "st"
    refine w_ix_l a2 ?_
    walk_at "st"
    refine ⟨size_ok (by rw [List.length_map, List.length_map]; omega), ?_⟩
    walk_at "st"
    refine ⟨(rowAt g (rows.getD i 0)).ws, st.getD i [] ++ st.getD (i + 1) [], rfl, (List.map_append ..).symm, low_lap c1 c2, fun w hw => fit_lap (ro.wo w hw) (by decide) n3 (Nat.le_refl _) d1 d2, ?_⟩
    cases hz1 : tf (∀ w ∈ (rowAt g (rows.getD i 0)).ws, Wan w (1, 1) (st.getD i [] ++ st.getD (i + 1) [])) with
    | false =>
      walk_at "st"
      exact hR (tf_no fun z => by rw [tf_yes z.1] at hz1; cases hz1)
    | true =>
    walk_at "st"
    refine w_ix_l a3 ?_
    walk_at "st"
    refine w_ix_l a4 ?_
    walk_at "st"
    refine ⟨size_ok (by rw [List.length_map, List.length_map]; omega), ?_⟩
    walk_at "st"
    refine ⟨(rowAt g (rows.getD i 0)).ws, dr.getD i [] ++ dr.getD (i + 1) [], rfl, (List.map_append ..).symm, low_int 0, (fb_int (n := 1) (by unfold Bd; decide)).mono (by decide) (by decide), low_lap c3 c4, fun w hw => fit_lap (ro.wo w hw) (by decide) n3 (Nat.le_refl _) d3 d4, ?_⟩
    cases hz2 : tf (∀ w ∈ (rowAt g (rows.getD i 0)).ws, Wan w (0, 1) (dr.getD i [] ++ dr.getD (i + 1) [])) with
    | false =>
      walk_at "st"
      exact hR (tf_no fun z => by rw [tf_yes z.2] at hz2; cases hz2)
    | true =>
    walk_at "st"
    exact hG (tf_yes ⟨tf_iff.mp hz1, tf_iff.mp hz2⟩) _ ⟨_, _, _, rfl⟩
  · obtain ⟨x6, x7, x8, rfl⟩ := hI
    have wa := fun i hi => (tfs_all (fun i => (∀ w ∈ (rowAt g (rows.getD i 0)).ws, Wan w (1, 1) (st.getD i [] ++ st.getD (i + 1) [])) ∧ ∀ w ∈ (rowAt g (rows.getD i 0)).ws, Wan w (0, 1) (dr.getD i [] ++ dr.getD (i + 1) [])) _).mp z i (List.mem_range.mpr hi)
    walk_at "st"
    refine w_ix_l p0 ?_
    walk_at "st"
    refine w_ix_l hd.last ?_
    walk_at "st"
    refine w_ne_frs ?_
    by_cases e1 : ¬ dr.getD 0 [] = dr.getD rows.length []
    · rw [decide_eq_false e1]
      walk_at "st"
      exact tf_f h fun z => e1 z.dz
    have e1 : dr.getD 0 [] = dr.getD rows.length [] := Decidable.of_not_not e1
    rw [decide_eq_true e1]
    walk_at "st"
    refine w_ix_l a0 ?_
    walk_at "st"
    refine w_ix_l p0 ?_
    walk_at "st"
    rw [zipD_mp]
    simp only [wipeD, List.set]
    refine comp_e (fun p : (Int × Int) × (Int × Int) => D.tup [fr p.1, fr p.2]) (fun p => fr (addT p.1 p.2)) ((st.getD 0 []).zip (dr.getD 0 [])) [] _ (by rw [List.length_zip, List.length_nil]; omega) (fun p hp P0 q => ?_) ?_
    · have f1 := d0 _ (List.of_mem_zip hp).1
      have f2 := s0 _ (List.of_mem_zip hp).2
      unfold fr
      walk_at "st"
      exact ⟨⟨f1.ne, f2.ne, f1.top.mono (by decide), f1.bot.mono (by decide), f2.top.mono (by decide), f2.bot.mono (by decide)⟩, q⟩
    rw [List.nil_append, show ((st.getD 0 []).zip (dr.getD 0 [])).map (fun p => fr (addT p.1 p.2)) = (List.zipWith addT (st.getD 0 []) (dr.getD 0 [])).map fr by
      rw [List.map_zipWith, ← List.map_uncurry_zip_eq_zipWith]; rfl]
    walk_at "st"
    refine w_ix_l hs.last ?_
    walk_at "st"
    refine w_eq_frs ?_
    refine tf_e h ?_
    rw [decide_eq_true_iff, add_iff b0 bE q0 c0 cE r0]
    exact ⟨fun v => ⟨wa, e1, v⟩, fun z => z.sz⟩
  · refine tf_f h fun G => ?_
    rw [(tfs_all (fun i => (∀ w ∈ (rowAt g (rows.getD i 0)).ws, Wan w (1, 1) (st.getD i [] ++ st.getD (i + 1) [])) ∧ ∀ w ∈ (rowAt g (rows.getD i 0)).ws, Wan w (0, 1) (dr.getD i [] ++ dr.getD (i + 1) [])) _).mpr fun i hi => G.wa i (List.mem_range.mp hi)] at z
    cases z
theorem sem_L_is_lap : ∀ ds ms Q, sp_L_is_lap ds ms Q → t_L_is_lap { nx := fun _ m => Q .non m, rt := Q } (startD 11 ds) ms := by
  intro ds ms Q h
  unfold sp_L_is_lap at h
  split at h
  · rename_i d x
    obtain ⟨g, rfl, ok, an, h⟩ := h
    have n3 := ok.nm.l2
    obtain ⟨ty, ety⟩ := an.ty
    simp only [startD]
    unfold t_L_is_lap pgD
    walk_at "st"
    cases x with
    | tup xs =>
      obtain ⟨hl, oka⟩ := an.tup
      walk_at "st"
      by_cases h3 : xs.length ≠ 3
      · refine w_iteT (by rw [Bool.not_eq_true', beq_eq_false_iff_ne]; omega) ?_
        walk_at "st"
        refine tf_f h fun ⟨_, _, _, e, _⟩ => ?_
        injection e with e
        rw [e] at h3
        exact h3 rfl
      have h3 : xs.length = 3 := by omega
      refine w_iteF (by rw [h3]; rfl) ?_
      match xs, h3 with
      | [x0, x1, x2], _ =>
      have a0 := oka x0 (by simp)
      have a1 := oka x1 (by simp)
      have a2 := oka x2 (by simp)
      have h := tf_e (b := tf (∃ rows st dr, x0 = .lst (natL rows) ∧ x1 = .lst (st.map frsD) ∧ x2 = .lst (dr.map frsD) ∧ LapOk g rows st dr)) h (by rw [tf_iff, lap_iff])
      walk_at "st"
      refine ⟨g, 110, rfl, a0, ?_⟩
      cases hr : tf (IsRing g x0) with
      | false =>
        walk_at "st"
        refine tf_f h fun ⟨rows, st, dr, e, _, _, o⟩ => ?_
        rw [tf_yes ⟨rows, e, o.l1, o.l2, o.rl, o.cl⟩] at hr
        cases hr
      | true =>
      obtain ⟨rows, rfl, l1, l2, hk, cl⟩ := tf_iff.mp hr
      walk_at "st"
      have out : ∀ {st dr : List (List (Int × Int))}, x1 = .lst (st.map frsD) ∧ x2 = .lst (dr.map frsD) ∧ LapOk g rows st dr → Lis ((rows.length : Int) + 1) (g.nm.length : Int) x1 ∧ Lis ((rows.length : Int) + 1) (g.nm.length : Int) x2 := fun ⟨e1, e2, o⟩ =>
        ⟨⟨_, e1, by rw [o.sl]; rfl, fun s hs => ⟨by rw [(o.sf s hs).1], (o.sf s hs).2⟩⟩, ⟨_, e2, by rw [o.dl]; rfl, fun s hs => ⟨by rw [(o.df s hs).1], (o.df s hs).2⟩⟩⟩
      refine loop_allD (fun y => tf (Lis ((rows.length : Int) + 1) (g.nm.length : Int) y)) (fun ds => ∃ x5, ds = [some (.tup [.lst (g.nm.map D.str), .lst (g.pm.map D.str), .lst (g.rs.map rwD)]), some (.tup [.lst (natL rows), x1, x2]), some (.lst (natL rows)), some x1, some x2, x5, none, none, none, none, none]) [x1, x2] _ ⟨_, rfl⟩ ?_ (fun z ds hI => ?_) (fun z => ?_)
      · rintro y hy ds ⟨x5, rfl⟩ G hG hR
        have ay : AnyX 110 y := by
          simp only [List.mem_cons, List.not_mem_nil, or_false] at hy
          rcases hy with rfl | rfl
          · exact a1
          · exact a2
        obtain ⟨tz, etz⟩ := ay.ty
        walk_at "st"
        cases y with
        | lst ys =>
          obtain ⟨hl2, oka2⟩ := ay.lst
          walk_at "st"
          rw [natL_len]
          by_cases hb : ¬ (ys.length : Int) = (rows.length : Int) + 1
          · refine w_iteT (by rw [Bool.not_eq_true', beq_eq_false_iff_ne]; exact hb) ?_
            walk_at "st"
            exact hR (tf_no fun z => hb (lis_iff.mp z).1)
          have hb : (ys.length : Int) = (rows.length : Int) + 1 := Decidable.of_not_not hb
          refine w_iteF (by rw [hb]; simp) ?_
          walk_at "st"
          simp only [wipeD, List.set]
          refine comp_filt (fun x => !tf (Fra (g.nm.length : Int) x)) (fun x => x) ys [] _ (by rw [List.length_nil]; omega) (fun x hx K L k1 k2 => ?_) ?_
          · walk_at "st"
            rw [List.length_map]
            refine ⟨110, oka2 x hx, by decide, ?_⟩
            cases hf : tf (Fra (g.nm.length : Int) x) with
            | true =>
              walk_at "st"
              exact k2 (by rw [hf]; rfl)
            | false =>
              walk_at "st"
              exact k1 (by rw [hf]; rfl)
          rw [List.nil_append]
          walk_at "st"
          rw [filt_empty (fun x => tf (Fra (g.nm.length : Int) x)) ys]
          cases ha : ys.all fun x => tf (Fra (g.nm.length : Int) x) with
          | true =>
            walk_at "st"
            exact hG (tf_yes (lis_iff.mpr ⟨hb, (tfs_all _ _).mp ha⟩)) _ ⟨_, rfl⟩
          | false =>
            walk_at "st"
            refine hR (tf_no fun z => ?_)
            rw [(tfs_all _ _).mpr (lis_iff.mp z).2] at ha
            cases ha
        | _ => cases etz <;> (walk_at "st"; exact hR (tf_no fun ⟨_, e, _⟩ => by cases e))
      · obtain ⟨x5, rfl⟩ := hI
        have z2 := (tfs_all (fun y => Lis ((rows.length : Int) + 1) (g.nm.length : Int) y) _).mp z
        obtain ⟨st, rfl, sl, so⟩ := z2 x1 (by simp)
        obtain ⟨dr, rfl, dl, do_⟩ := z2 x2 (by simp)
        have so : ∀ s ∈ st, s.length = g.nm.length ∧ ∀ x ∈ s, Low x := fun s hs => ⟨by have := (so s hs).1; omega, (so s hs).2⟩
        have do_ : ∀ s ∈ dr, s.length = g.nm.length ∧ ∀ x ∈ s, Low x := fun s hs => ⟨by have := (do_ s hs).1; omega, (do_ s hs).2⟩
        refine lap_c1 ok l1 l2 hk (any_sts a1 (by omega) so) (any_sts a2 (by omega) do_) ?_
        refine tf_e h ?_
        rw [tf_iff]
        constructor
        · intro z
          exact ⟨rows, st, dr, rfl, rfl, rfl, l1, l2, hk, cl, by omega, by omega, so, do_, z⟩
        · rintro ⟨rows', st', dr', e, e1, e2, o⟩
          injection e with e
          injection e1 with e1
          injection e2 with e2
          have := natL_inj e
          subst this
          have := maps_injL (fun _ _ => frsD_inj) e1
          subst this
          have := maps_injL (fun _ _ => frsD_inj) e2
          subst this
          exact o.rd
      · refine tf_f h fun ⟨rows', st, dr, e, e1, e2, o⟩ => ?_
        injection e with e
        have := natL_inj e
        subst this
        have := out ⟨e1, e2, o⟩
        rw [(tfs_all (fun y => Lis ((rows.length : Int) + 1) (g.nm.length : Int) y) _).mpr fun y hy => by
          simp only [List.mem_cons, List.not_mem_nil, or_false] at hy
          rcases hy with rfl | rfl
          · exact this.1
          · exact this.2] at z
        cases z
    | _ => cases ety <;> (walk_at "st"; exact tf_f h fun ⟨_, _, _, e, _⟩ => by cases e)
  · exact h.elim
theorem ok_L_is_lap (T : Tx P K mg) : FnG P w K mg base 5 T.f_L_is_lap T.d_L_is_lap ["_law_program", "_law_thing"] (spD K sp_L_is_lap) := by
  have G_L_is_ring := ok_L_is_ring (P := P) (w := w) (base := base) T
  have G_L_granted := ok_L_granted (P := P) (w := w) (base := base) T
  have G_L_suits := ok_L_suits (P := P) (w := w) (base := base) T
  have G_L_sum := ok_L_sum (P := P) (w := w) (base := base) T
  have G_L_are_fractions := ok_L_are_fractions (P := P) (w := w) (base := base) T
  exact fnG_of (k := 4) (t := t_L_is_lap) T.F_L_is_lap sc_L_is_lap len_L_is_lap
    (fun cdv A outer s H hr => pds_cons (pds_if (pdt_w (pdw_or (pdt_not (pdt_val (pd_isi .tuple (by decide) rfl T.n_isinstance rfl T.n_tuple (by decide +kernel) (by decide) (by decide) (pd_var 1)))) (pdw_or (pdt_cmp (op_neF hr.r.units) opd_ne (pd_callB call_len cal_len rfl T.n_len (by decide +kernel) (pda_cons (pd_var 1) (pda_nil))) (pd_int)) (pdw_or1 (pdt_not (pdt_val (pd_call G_L_is_ring (hr.mono (by decide)) rfl T.g_L_is_ring T.F_L_is_ring.kp T.b_L_is_ring_2 (pda_cons (pd_var 0) (pda_cons (pd_ix ix_seq opd_ix (pd_var 1) (pd_int)) (pda_nil)))))))))) (pds_one (pds_ret (pd_bl))) (pds_nil)) (pds_cons (pds_asg (vs := [2, 3, 4]) (pd_var 1) (pg_tup rfl (pgs_cons (pg_name (i := 2) sc_L_is_lap.nd rfl (.inl rfl)) (pgs_cons (pg_name (i := 3) sc_L_is_lap.nd rfl (.inl rfl)) (pgs_cons (pg_name (i := 4) sc_L_is_lap.nd rfl (.inl rfl)) (pgs_nil))))) (tg_tup (tgs_cons (tg_name (i := 2) (by decide)) (tgs_cons (tg_name (i := 3) (by decide)) (tgs_cons (tg_name (i := 4) (by decide)) (tgs_nil) (mon_name (i := 4))) (mon_name (i := 3))) (mon_name (i := 2))))) (pds_cons (pds_for (vs := [5]) rfl (pdi_list (pd_lst (pda_cons (pd_var 3) (pda_cons (pd_var 4) (pda_nil))))) (pg_name (i := 5) sc_L_is_lap.nd rfl (.inl rfl)) (tg_name (i := 5) (by decide)) (pds_cons (pds_if (pdt_w (pdw_or (pdt_not (pdt_val (pd_isi .list (by decide) rfl T.n_isinstance rfl T.n_list (by decide +kernel) (by decide) (by decide) (pd_var 5)))) (pdw_or1 (pdt_cmp (op_neF hr.r.units) opd_ne (pd_callB call_len cal_len rfl T.n_len (by decide +kernel) (pda_cons (pd_var 5) (pda_nil))) (pd_op op_addD opd_add (pd_callB call_len cal_len rfl T.n_len (by decide +kernel) (pda_cons (pd_var 2) (pda_nil))) (pd_int)))))) (pds_one (pds_ret (pd_bl))) (pds_nil)) (pds_one (pds_if (pdt_cmp (op_neF hr.r.units) opd_ne (pd_lc (own := [("_law_one", 9)]) rfl sc_L_is_lap.nd (pdi_list (pd_var 5)) (blkOk_by (own := [("_law_one", 9)]) (by kernel_rfl)) (fun _ _ _ _ _ => pg_name (i := 9) sc_L_is_lap.nd rfl (by first | exact .inl rfl | exact .inr rfl)) (tg_name (i := 9) (by decide)) (mon_name (i := 9)) (fun _ _ _ _ _ => pdts_one (pdt_not (pdt_val (pd_call G_L_are_fractions (hr.mono (by decide)) rfl T.g_L_are_fractions T.F_L_are_fractions.kp T.b_L_are_fractions_2 (pda_cons (pd_callB call_len cal_len rfl T.n_len (by decide +kernel) (pda_cons (pd_ix ix_seq opd_ix (pd_var 0) (pd_int)) (pda_nil))) (pda_cons (pd_var 9) (pda_nil))))))) (fun _ _ _ _ _ => pd_var 9)) (pd_lst (pda_nil))) (pds_one (pds_ret (pd_bl))) (pds_nil))))) (pds_cons (pds_for (vs := [6, 7]) rfl (pdi_enum rfl T.n_enumerate (pda_cons (pd_var 2) (pda_nil))) (pg_tup rfl (pgs_cons (pg_name (i := 6) sc_L_is_lap.nd rfl (.inl rfl)) (pgs_cons (pg_name (i := 7) sc_L_is_lap.nd rfl (.inl rfl)) (pgs_nil)))) (tg_tup (tgs_cons (tg_name (i := 6) (by decide)) (tgs_cons (tg_name (i := 7) (by decide)) (tgs_nil) (mon_name (i := 7))) (mon_name (i := 6)))) (pds_cons (pds_set (i := 8) sc_L_is_lap.nd rfl (.inl rfl) (pd_ix ix_seq opd_ix (pd_ix ix_seq opd_ix (pd_ix ix_seq opd_ix (pd_var 0) (pd_int)) (pd_var 7)) (pd_int))) (pds_cons (pds_if (pdt_not (pdt_val (pd_call G_L_granted (hr.mono (by decide)) rfl T.g_L_granted T.F_L_granted.kp T.b_L_granted_2 (pda_cons (pd_var 8) (pda_cons (pd_op op_addD opd_add (pd_ix ix_seq opd_ix (pd_var 3) (pd_var 6)) (pd_ix ix_seq opd_ix (pd_var 3) (pd_op op_addD opd_add (pd_var 6) (pd_int)))) (pda_nil)))))) (pds_one (pds_ret (pd_bl))) (pds_nil)) (pds_one (pds_if (pdt_not (pdt_val (pd_call G_L_suits (hr.mono (by decide)) rfl T.g_L_suits T.F_L_suits.kp T.b_L_suits_3 (pda_cons (pd_var 8) (pda_cons (pd_tup (pda_cons (pd_int) (pda_cons (pd_int) (pda_nil)))) (pda_cons (pd_op op_addD opd_add (pd_ix ix_seq opd_ix (pd_var 4) (pd_var 6)) (pd_ix ix_seq opd_ix (pd_var 4) (pd_op op_addD opd_add (pd_var 6) (pd_int)))) (pda_nil))))))) (pds_one (pds_ret (pd_bl))) (pds_nil)))))) (pds_cons (pds_if (pdt_cmp (op_neF hr.r.units) opd_ne (pd_ix ix_seq opd_ix (pd_var 4) (pd_int)) (pd_ix ix_seq opd_ix (pd_var 4) (pd_neg (pd_int)))) (pds_one (pds_ret (pd_bl))) (pds_nil)) (pds_one (pds_ret (pd_cmp (op_eqF hr.r.units) opd_eq (pd_lc (own := [("_law_one", 9), ("_law_two", 10)]) rfl sc_L_is_lap.nd (pdi_zip rfl T.n_zip (pda_cons (pd_ix ix_seq opd_ix (pd_var 3) (pd_int)) (pda_cons (pd_ix ix_seq opd_ix (pd_var 4) (pd_int)) (pda_nil)))) (blkOk_by (own := [("_law_one", 9), ("_law_two", 10)]) (by kernel_rfl)) (fun _ _ _ _ _ => pg_tup rfl (pgs_cons (pg_name (i := 9) sc_L_is_lap.nd rfl (by first | exact .inl rfl | exact .inr rfl)) (pgs_cons (pg_name (i := 10) sc_L_is_lap.nd rfl (by first | exact .inl rfl | exact .inr rfl)) (pgs_nil)))) (tg_tup (tgs_cons (tg_name (i := 9) (by decide)) (tgs_cons (tg_name (i := 10) (by decide)) (tgs_nil) (mon_name (i := 10))) (mon_name (i := 9)))) (mon_tup (mon_cons (mon_name (i := 9)) (mon_cons (mon_name (i := 10)) (mon_nil)))) (fun _ _ _ _ _ => pdts_nil) (fun _ _ _ _ _ => pd_call G_L_sum (hr.mono (by decide)) rfl T.g_L_sum T.F_L_sum.kp T.b_L_sum_2 (pda_cons (pd_var 9) (pda_cons (pd_var 10) (pda_nil))))) (pd_ix ix_seq opd_ix (pd_var 3) (pd_neg (pd_int)))))))))))
    sem_L_is_lap
/-! L_odd -/
mutual
/-- how long repr tells it -/
def wD : D → Nat
  | .int _ => 2000
  | .str x => 10 * x.length + 10
  | .lst xs => wDs xs + 10
  | .tup xs => wDs xs + 10
  | .non => 10
  | .bl _ => 10
  | .fro _ => 10
  | .edic => 10
  | .dct _ => 10
  | .opq _ => 10
  | .exc _ _ _ => 10
def wDs : List D → Nat
  | [] => 0
  | x :: r => wD x + 2 + wDs r
end
theorem wDs_app : ∀ xs ys : List D, wDs (xs ++ ys) = wDs xs + wDs ys
  | [], ys => by show wDs ys = 0 + wDs ys; omega
  | x :: r, ys => by
    show wD x + 2 + wDs (r ++ ys) = wD x + 2 + wDs r + wDs ys
    rw [wDs_app r ys]; omega
theorem wDs_rev : ∀ xs : List D, wDs xs.reverse = wDs xs
  | [] => rfl
  | x :: r => by
    rw [List.reverse_cons, wDs_app, wDs_rev r]
    show wDs r + (wD x + 2 + 0) = wD x + 2 + wDs r
    omega
theorem any_sds {c : Bool} {n L k : Nat} : ∀ xs : List D, (∀ x ∈ xs, Sd x (wD x) (k + 1)) → ∃ ps, toPys xs = some ps ∧ lay1s ps = true ∧ PyData.showableAll ps = true ∧ wts ps ≤ wDs xs ∧ PyData.depthAll ps ≤ k + 1
  | [], _ => ⟨[], rfl, rfl, rfl, Nat.zero_le _, Nat.zero_le _⟩
  | x :: r, h => by
    obtain ⟨p, a, b, c', e, f⟩ := (h x List.mem_cons_self).ex
    obtain ⟨ps, a2, b2, c2, e2, f2⟩ := any_sds (c := c) (n := n) (L := L) r fun y hy => h y (List.mem_cons_of_mem _ hy)
    refine ⟨p :: ps, by unfold toPys; rw [a, a2], Bool.and_eq_true_iff.mpr ⟨b, b2⟩, Bool.and_eq_true_iff.mpr ⟨c', c2⟩, ?_, Nat.max_le.mpr ⟨f, f2⟩⟩
    show wt p + 2 + wts ps ≤ wD x + 2 + wDs r
    omega
theorem Any.sd {c : Bool} {n L k : Nat} {d : D} (h : Any c n L k d) (hn : n ≤ 1900) : Sd d (wD d) (k + 1) := by
  induction h with
  | non => exact sm_non.sd.mono (Nat.le_refl _) (by omega)
  | bl b => exact (sm_bl b).sd.mono (Nat.le_refl _) (by omega)
  | int h => exact (sm_int h hn).sd.mono (Nat.le_refl _) (by omega)
  | str h1 h2 => exact (sm_str _ h2).sd.mono (Nat.le_refl _) (by omega)
  | edic h => exact sd_edic.mono (Nat.le_refl _) (by omega)
  | lst h1 h2 ih =>
    obtain ⟨ps, a, b, c', e, f⟩ := any_sds (c := c) (n := n) (L := L) _ ih
    exact ⟨.list ps, by unfold toPy; rw [a]; rfl, b, c', (by show wts ps + 10 ≤ wDs _ + 10; omega), Nat.succ_le_succ f⟩
  | tup h1 h2 ih =>
    obtain ⟨ps, a, b, c', e, f⟩ := any_sds (c := c) (n := n) (L := L) _ ih
    exact ⟨.tuple ps, by unfold toPy; rw [a]; rfl, b, c', (by show wts ps + 10 ≤ wDs _ + 10; omega), Nat.succ_le_succ f⟩
def tens : Int := 10 ^ Int.toNat 30
/-- odd things in the stead of a part -/
def oddL (d : D) : List D := [.non, .bl true, .str "1", .lst [d], .tup [d], .edic, .tup [], .lst [], .int 0, .int (-1), .int tens, .tup [.int 1, .int 2], .tup [.int 2, .int 2]] ++ [.tup [.int 0, .int 1], .tup [.int (-1), .int 3], .tup [.int 1, .int 0], .bl false]
def sp_L_odd : FS := fun ds ms P => match ds with
  | [.opq (.ref p), d] => PoolAt ms p ∧ ∀ d' ∈ oddL d, ∀ ms', PoolAt ms' p → Chg ms p ms' → P d' ms'
  | _ => False
theorem len_L_odd : ∀ ds ms Q, sp_L_odd ds ms Q → ds.length = 2 := fun ds ms Q h => by
  unfold sp_L_odd at h
  split at h <;> first | rfl | exact h.elim
def t_L_odd : DTS := dSeq (dAsg (dLst (aCons (dC .non) (aCons (dC (.bl true)) (aCons (dC (.str "1")) (aCons (dLst (aCons (dVar 1) (aNil))) (aCons (dTup (aCons (dVar 1) (aNil))) (aCons (dEdic) (aCons (dTup (aNil)) (aCons (dLst (aNil)) (aCons (dC (.int 0)) (aCons (dNeg (dC (.int 1))) (aCons (dOp fPow (dC (.int 10)) (dC (.int 30))) (aCons (dTup (aCons (dC (.int 1)) (aCons (dC (.int 2)) (aNil)))) (aCons (dTup (aCons (dC (.int 2)) (aCons (dC (.int 2)) (aNil)))) (aNil))))))))))))))) (sName 2)) (dRet (dOp fIx (dOp fAdd (dVar 2) (dLst (aCons (dTup (aCons (dC (.int 0)) (aCons (dC (.int 1)) (aNil)))) (aCons (dTup (aCons (dNeg (dC (.int 1))) (aCons (dC (.int 3)) (aNil)))) (aCons (dTup (aCons (dC (.int 1)) (aCons (dC (.int 0)) (aNil)))) (aCons (dC (.bl false)) (aNil))))))) (dCall 2 0 [0, 1] sp_L_take (aCons (dVar 0) (aCons (dC (.int 17)) (aNil))) (aNil))))
theorem sem_L_odd : ∀ ds ms Q, sp_L_odd ds ms Q → t_L_odd { nx := fun _ m => Q .non m, rt := Q } (startD 3 ds) ms := by
  intro ds ms Q h
  unfold sp_L_odd at h
  split at h
  · rename_i p d
    obtain ⟨hp, h⟩ := h
    simp only [startD]
    unfold t_L_odd
    walk_at "st"
    refine take_step hp (by decide) (by decide) fun r a1 b1 m2 p2 c2 => ?_
    walk_at "st"
    refine w_ixm (xs := oddL d) a1 (by show r < 17; omega) fun d' hd => ?_
    exact h d' hd m2 p2 c2
  · exact h.elim
theorem ok_L_odd (T : Tx P K mg) : FnG P w K mg base 2 T.f_L_odd T.d_L_odd ["_law_pool_here", "_law_part"] (spD K sp_L_odd) := by
  have G_L_take := ok_L_take (P := P) (w := w) (base := base) T
  exact fnG_of (k := 1) (t := t_L_odd) T.F_L_odd sc_L_odd len_L_odd
    (fun cdv A outer s H hr => pds_cons (pds_set (i := 2) sc_L_odd.nd rfl (.inl rfl) (pd_lst (pda_cons (pd_non) (pda_cons (pd_bl) (pda_cons (pd_str) (pda_cons (pd_lst (pda_cons (pd_var 1) (pda_nil))) (pda_cons (pd_tup (pda_cons (pd_var 1) (pda_nil))) (pda_cons (pd_dict0) (pda_cons (pd_tup (pda_nil)) (pda_cons (pd_lst (pda_nil)) (pda_cons (pd_int) (pda_cons (pd_neg (pd_int)) (pda_cons (pd_op op_pow opd_pow (pd_int) (pd_int)) (pda_cons (pd_tup (pda_cons (pd_int) (pda_cons (pd_int) (pda_nil)))) (pda_cons (pd_tup (pda_cons (pd_int) (pda_cons (pd_int) (pda_nil)))) (pda_nil)))))))))))))))) (pds_one (pds_ret (pd_ix ix_seq opd_ix (pd_op op_addD opd_add (pd_var 2) (pd_lst (pda_cons (pd_tup (pda_cons (pd_int) (pda_cons (pd_int) (pda_nil)))) (pda_cons (pd_tup (pda_cons (pd_neg (pd_int)) (pda_cons (pd_int) (pda_nil)))) (pda_cons (pd_tup (pda_cons (pd_int) (pda_cons (pd_int) (pda_nil)))) (pda_cons (pd_bl) (pda_nil))))))) (pd_call G_L_take (hr.mono (by decide)) rfl T.g_L_take T.F_L_take.kp T.b_L_take_2 (pda_cons (pd_var 0) (pda_cons (pd_int) (pda_nil))))))))
    sem_L_odd
/-! L_put -/
/-- what a thing may become by being bent -/
structure PutOk (L j : Nat) (d d' : D) : Prop where
  an : Any true 101 (L + 1) (j + 1) d'
  wd : wD d' ≤ 2 * wD d + 9000
theorem any_cl {L j : Nat} {d : D} (h : Any false 100 L j d) : Any true 101 (L + 1) j d := h.mono (fun z => by cases z) (by decide) (by omega) (Nat.le_refl _)
theorem bd1 {n : Nat} {i : Int} (h : i.natAbs < 1073741824) (hn : 30 ≤ n) : Bd n i := (show Bd 30 i by unfold Bd; omega).mono hn
theorem odd_ok {L j : Nat} {d d' : D} (h : Any false 100 L j d) (hL : 2 ≤ L) (hd : d' ∈ oddL d) : PutOk L j d d' := by
  have i2 : ∀ a b : Int, a.natAbs < 1073741824 → b.natAbs < 1073741824 → PutOk L j d (.tup [.int a, .int b]) := fun a b ha hb =>
    ⟨.tup (by show 2 ≤ L + 1; omega) fun x hx => by
      simp only [List.mem_cons, List.not_mem_nil, or_false] at hx
      rcases hx with rfl | rfl
      · exact .int (bd1 ha (by decide))
      · exact .int (bd1 hb (by decide)), by show (2000 + 2 + (2000 + 2 + 0)) + 10 ≤ 2 * wD d + 9000; omega⟩
  have one : Any true 101 (L + 1) j d := any_cl h
  unfold oddL at hd
  simp only [List.cons_append, List.nil_append, List.mem_cons, List.not_mem_nil, or_false] at hd
  rcases hd with rfl | rfl | rfl | rfl | rfl | rfl | rfl | rfl | rfl | rfl | rfl | rfl | rfl | rfl | rfl | rfl | rfl
  · exact ⟨.non, by show 10 ≤ _; omega⟩
  · exact ⟨.bl _, by show 10 ≤ _; omega⟩
  · refine ⟨.str (Nat.le_trans (show (("1" : String) : Str).length ≤ 1 by decide +kernel) (by omega)) (ofString_ok _), ?_⟩
    have : (("1" : String) : Str).length = 1 := by decide +kernel
    show 10 * (("1" : String) : Str).length + 10 ≤ _
    omega
  · refine ⟨.lst (by show 1 ≤ L + 1; omega) fun x hx => ?_, by show (wD d + 2 + 0) + 10 ≤ _; omega⟩
    cases List.mem_singleton.mp hx
    exact one
  · refine ⟨.tup (by show 1 ≤ L + 1; omega) fun x hx => ?_, by show (wD d + 2 + 0) + 10 ≤ _; omega⟩
    cases List.mem_singleton.mp hx
    exact one
  · exact ⟨.edic rfl, by show 10 ≤ _; omega⟩
  · exact ⟨.tup (Nat.zero_le _) (fun x hx => by cases hx), by show 0 + 10 ≤ _; omega⟩
  · exact ⟨.lst (Nat.zero_le _) (fun x hx => by cases hx), by show 0 + 10 ≤ _; omega⟩
  · exact ⟨.int (bd1 (by decide) (by decide)), by show 2000 ≤ _; omega⟩
  · exact ⟨.int (bd1 (by decide) (by decide)), by show 2000 ≤ _; omega⟩
  · exact ⟨.int (show Bd 101 tens by unfold Bd tens; decide +kernel), by show 2000 ≤ _; omega⟩
  · exact i2 _ _ (by decide) (by decide)
  · exact i2 _ _ (by decide) (by decide)
  · exact i2 _ _ (by decide) (by decide)
  · exact i2 _ _ (by decide) (by decide)
  · exact i2 _ _ (by decide) (by decide)
  · exact ⟨.bl _, by show 10 ≤ _; omega⟩
def sr_L_put (j : Nat) : FS := fun ds ms P => match ds with
  | [.opq (.ref p), d] => PoolAt ms p ∧ j ≤ 50 ∧ ∃ L, 2 ≤ L ∧ L ≤ 900 ∧ Any false 100 L j d ∧ ∀ d', PutOk L j d d' → ∀ ms', PoolAt ms' p → Chg ms p ms' → P d' ms'
  | _ => False
def sp_L_put : FS := sr_L_put 6
theorem len_L_put (j : Nat) : ∀ ds ms Q, sr_L_put j ds ms Q → ds.length = 2 := fun ds ms Q h => by
  unfold sr_L_put at h
  split at h <;> first | rfl | exact h.elim
def t_L_put_c2 (RS : FS) : DTS := dSeq (dIfS (dAnd (dTest (dIsi .int (dVar 1))) (dAnd (dNot (dTest (dIsi .bool (dVar 1)))) (dTest (dOp fGt (dCall 2 0 [0, 1] sp_L_take (aCons (dVar 0) (aCons (dC (.int 3)) (aNil))) (aNil)) (dC (.int 0)))))) (dRet (dOp fSub (dOp fAdd (dVar 1) (dC (.int 1))) (dOp fMul (dC (.int 2)) (dCall 2 0 [0, 1] sp_L_take (aCons (dVar 0) (aCons (dC (.int 2)) (aNil))) (aNil))))) (dNext)) (dRet (dCall 2 0 [0, 1] sp_L_odd (aCons (dVar 0) (aCons (dVar 1) (aNil))) (aNil)))
def t_L_put_c1 (RS : FS) : DTS := dSeq (dIfS (dAnd (dTest (dIsi .tuple (dVar 1))) (dAnd (dTest (dOp fNe (dVar 1) (dTup (aNil)))) (dTest (dOp fGt (dCall 2 0 [0, 1] sp_L_take (aCons (dVar 0) (aCons (dC (.int 4)) (aNil))) (aNil)) (dC (.int 0)))))) (dSeq (dAsg (dCall 2 0 [0, 1] sp_L_take (aCons (dVar 0) (aCons (dCB cLen (aCons (dVar 1) (aNil))) (aNil))) (aNil)) (sName 2)) (dSeq (dAsg (dCall 2 0 [0, 1] sp_L_take (aCons (dVar 0) (aCons (dC (.int 9)) (aNil))) (aNil)) (sName 3)) (dSeq (dIfS (dTest (dOp fEq (dVar 3) (dC (.int 0)))) (dRet (dOp fAdd (dSl (dVar 1) (oNone) (oSome (dVar 2))) (dSl (dVar 1) (oSome (dOp fAdd (dVar 2) (dC (.int 1)))) (oNone)))) (dNext)) (dSeq (dIfS (dTest (dOp fEq (dVar 3) (dC (.int 1)))) (dRet (dOp fAdd (dVar 1) (dSl (dVar 1) (oSome (dVar 2)) (oSome (dOp fAdd (dVar 2) (dC (.int 1))))))) (dNext)) (dSeq (dIfS (dTest (dOp fEq (dVar 3) (dC (.int 2)))) (dRet (dCB cList (aCons (dVar 1) (aNil)))) (dNext)) (dRet (dOp fAdd (dOp fAdd (dSl (dVar 1) (oNone) (oSome (dVar 2))) (dTup (aCons (dCall 2 0 [0, 1] RS (aCons (dVar 0) (aCons (dOp fIx (dVar 1) (dVar 2)) (aNil))) (aNil)) (aNil)))) (dSl (dVar 1) (oSome (dOp fAdd (dVar 2) (dC (.int 1)))) (oNone))))))))) (dNext)) (t_L_put_c2 RS)
def t_L_put (RS : FS) : DTS := dSeq (dIfS (dAnd (dTest (dIsi .list (dVar 1))) (dAnd (dTest (dOp fNe (dVar 1) (dLst (aNil)))) (dTest (dOp fGt (dCall 2 0 [0, 1] sp_L_take (aCons (dVar 0) (aCons (dC (.int 4)) (aNil))) (aNil)) (dC (.int 0)))))) (dSeq (dAsg (dCall 2 0 [0, 1] sp_L_take (aCons (dVar 0) (aCons (dCB cLen (aCons (dVar 1) (aNil))) (aNil))) (aNil)) (sName 2)) (dSeq (dAsg (dCall 2 0 [0, 1] sp_L_take (aCons (dVar 0) (aCons (dC (.int 9)) (aNil))) (aNil)) (sName 3)) (dSeq (dIfS (dTest (dOp fEq (dVar 3) (dC (.int 0)))) (dRet (dOp fAdd (dSl (dVar 1) (oNone) (oSome (dVar 2))) (dSl (dVar 1) (oSome (dOp fAdd (dVar 2) (dC (.int 1)))) (oNone)))) (dNext)) (dSeq (dIfS (dTest (dOp fEq (dVar 3) (dC (.int 1)))) (dRet (dOp fAdd (dVar 1) (dSl (dVar 1) (oSome (dVar 2)) (oSome (dOp fAdd (dVar 2) (dC (.int 1))))))) (dNext)) (dSeq (dIfS (dTest (dOp fEq (dVar 3) (dC (.int 2)))) (dRet (dRevL (dVar 1))) (dNext)) (dSeq (dIfS (dTest (dOp fEq (dVar 3) (dC (.int 3)))) (dRet (dCB cTuple (aCons (dVar 1) (aNil)))) (dNext)) (dRet (dOp fAdd (dOp fAdd (dSl (dVar 1) (oNone) (oSome (dVar 2))) (dLst (aCons (dCall 2 0 [0, 1] RS (aCons (dVar 0) (aCons (dOp fIx (dVar 1) (dVar 2)) (aNil))) (aNil)) (aNil)))) (dSl (dVar 1) (oSome (dOp fAdd (dVar 2) (dC (.int 1)))) (oNone)))))))))) (dNext)) ((t_L_put_c1 RS))
theorem split_at {xs : List D} {n : Nat} (h : n < xs.length) : ∃ as x bs, xs = as ++ x :: bs ∧ as.length = n :=
  ⟨xs.take n, xs[n], xs.drop (n + 1), by rw [← List.drop_eq_getElem_cons h, List.take_append_drop], by rw [List.length_take]; omega⟩
theorem cut_l {as bs : List D} {x : D} : cutL (as ++ x :: bs) none (some (as.length : Int)) = as := by
  rw [cutL_to _ _ (by omega), Int.toNat_natCast]
  exact List.take_left
theorem cut_r {as bs : List D} {x : D} : cutL (as ++ x :: bs) (some ((as.length : Int) + 1)) none = bs := by
  rw [cutL_from _ _ (by omega), show ((as.length : Int) + 1).toNat = as.length + 1 by omega, List.drop_append]
  simp
theorem cut_m {as bs : List D} {x : D} : cutL (as ++ x :: bs) (some (as.length : Int)) (some ((as.length : Int) + 1)) = [x] := by
  rw [cutL_mid _ _ _ (by omega) (by omega), Int.toNat_natCast, show ((as.length : Int) + 1 - (as.length : Int)).toNat = 1 by omega, List.drop_left]
  rfl
theorem at_m {as bs : List D} {x : D} : atI (as ++ x :: bs) (as.length : Int) = some x := atI_nat (by rw [List.getElem?_append_right (Nat.le_refl _), Nat.sub_self]; rfl)
/-- the lists that a list may become -/
theorem put_lists {L k : Nat} {as bs : List D} {x : D} (hl : (as ++ x :: bs).length ≤ L) (h : ∀ y ∈ as ++ x :: bs, Any false 100 L k y) :
    ∀ ys, (ys = as ++ bs ∨ ys = as ++ x :: bs ++ [x] ∨ ys = (as ++ x :: bs).reverse ∨ ys = as ++ x :: bs ∨ ∃ x', PutOk L k x x' ∧ ys = as ++ [x'] ++ bs) → ys.length ≤ L + 1 ∧ (∀ y ∈ ys, Any true 101 (L + 1) (k + 1) y) ∧ wDs ys + 10 ≤ 2 * (wDs (as ++ x :: bs) + 10) + 9000 := by
  have hx : ∀ y ∈ as ++ x :: bs, Any true 101 (L + 1) (k + 1) y := fun y hy => (any_cl (h y hy)).up (by omega)
  have ha : ∀ y ∈ as, Any true 101 (L + 1) (k + 1) y := fun y hy => hx y (List.mem_append_left _ hy)
  have hb : ∀ y ∈ bs, Any true 101 (L + 1) (k + 1) y := fun y hy => hx y (List.mem_append_right _ (List.mem_cons_of_mem _ hy))
  have h1 := hx x (List.mem_append_right _ List.mem_cons_self)
  have ew : wDs (as ++ x :: bs) = wDs as + (wD x + 2 + wDs bs) := wDs_app _ _
  have el : (as ++ x :: bs).length = as.length + bs.length + 1 := by rw [List.length_append, List.length_cons]; omega
  intro ys hy
  rcases hy with rfl | rfl | rfl | rfl | ⟨x', ⟨an, wd⟩, rfl⟩
  · refine ⟨by rw [List.length_append]; omega, fun y hy => (List.mem_append.mp hy).elim (ha y) (hb y), ?_⟩
    rw [wDs_app]; omega
  · refine ⟨by rw [List.length_append, List.length_singleton]; omega, fun y hy => (List.mem_append.mp hy).elim (hx y) fun z => by rw [List.mem_singleton.mp z]; exact h1, ?_⟩
    rw [wDs_app (as ++ x :: bs)]
    show wDs (as ++ x :: bs) + (wD x + 2 + 0) + 10 ≤ _
    omega
  · refine ⟨by rw [List.length_reverse]; omega, fun y hy => hx y (List.mem_reverse.mp hy), ?_⟩
    rw [wDs_rev]; omega
  · exact ⟨by omega, hx, by omega⟩
  · refine ⟨by rw [List.length_append, List.length_append, List.length_singleton]; omega, fun y hy => ?_, ?_⟩
    · rcases List.mem_append.mp hy with hy | hy
      · rcases List.mem_append.mp hy with hy | hy
        · exact ha y hy
        · rw [List.mem_singleton.mp hy]; exact an
      · exact hb y hy
    · rw [wDs_app, wDs_app]
      show wDs as + (wD x' + 2 + 0) + wDs bs + 10 ≤ _
      omega
theorem put_c2 {RS : FS} {L j : Nat} {p : Addr} {d : D} {m : MS} {x2 x3 : Option D} {Q : D → MS → Prop} (hp : PoolAt m p) (an : Any false 100 L j d) (hL : 2 ≤ L) (h : ∀ d', PutOk L j d d' → ∀ m', PoolAt m' p → Chg m p m' → Q d' m') :
    t_L_put_c2 RS { nx := fun _ m => Q .non m, rt := Q } [some (.opq (.ref p)), some d, x2, x3] m := by
  have od : ∀ m1, PoolAt m1 p → Chg m p m1 → sp_L_odd [.opq (.ref p), d] m1 Q := fun m1 p1 c1 => ⟨p1, fun d' hd m2 p2 c2 => h d' (odd_ok an hL hd) m2 p2 (c1.trans c2)⟩
  unfold t_L_put_c2
  walk_at "st"
  cases an with
  | int hi =>
    walk_at "st"
    refine take_step hp (by decide) (by decide) fun r a1 b1 m2 p2 c2 => ?_
    walk_at "st"
    by_cases h0 : 0 < r
    · rw [decide_eq_true h0]
      walk_at "st"
      refine take_step p2 (by decide) (by decide) fun r2 a2 b2 m3 p3 c3 => ?_
      walk_at "st"
      refine ⟨.inr (.inr ⟨by omega, by omega⟩), ?_⟩
      walk_at "st"
      refine h _ ⟨.int ?_, by show 2000 ≤ _; omega⟩ m3 p3 (c2.trans c3)
      unfold Bd at hi ⊢
      rw [Nat.pow_succ]
      omega
    · rw [decide_eq_false h0]
      walk_at "st"
      exact od m2 p2 c2
  | bl b =>
    walk_at "st"
    exact od m hp hp.refl
  | non =>
    walk_at "st"
    exact od m hp hp.refl
  | str h1 h2 =>
    walk_at "st"
    exact od m hp hp.refl
  | edic hc => cases hc
  | lst h1 h2 =>
    walk_at "st"
    exact od m hp hp.refl
  | tup h1 h2 =>
    walk_at "st"
    exact od m hp hp.refl
theorem put_c1 {RS : FS} {L j : Nat} (hRS : ∀ i, j = i + 1 → RS = sr_L_put i) {p : Addr} {d : D} {m : MS} {x2 x3 : Option D} {Q : D → MS → Prop} (hp : PoolAt m p) (an : Any false 100 L j d) (hj : j ≤ 50) (hL : 2 ≤ L) (hL9 : L ≤ 900) (h : ∀ d', PutOk L j d d' → ∀ m', PoolAt m' p → Chg m p m' → Q d' m') :
    t_L_put_c1 RS { nx := fun _ m => Q .non m, rt := Q } [some (.opq (.ref p)), some d, x2, x3] m := by
  have rest : ∀ m1 x2 x3, PoolAt m1 p → Chg m p m1 → t_L_put_c2 RS { nx := fun _ m => Q .non m, rt := Q } [some (.opq (.ref p)), some d, x2, x3] m1 := fun m1 x2 x3 p1 c1 =>
    put_c2 p1 an hL fun d' ok m2 p2 c2 => h d' ok m2 p2 (c1.trans c2)
  unfold t_L_put_c1
  walk_at "st"
  have sh := an.sh (by omega)
  cases an with
  | tup h1 h2 =>
    rename_i k xs
    have hR := hRS k rfl
    walk_at "st"
    refine (show ShD _ ∧ ShD (.tup []) ∧ _ from ⟨sh, ⟨_, rfl, rfl⟩, ?_⟩)
    have e0 : (!eqD (.tup xs) (.tup [])) = !xs.isEmpty := by
      obtain ⟨ps, e, _, _⟩ := any_pys (c := false) (n := 100) (L := L) xs (fun x hx => (h2 x hx).py) rfl
      unfold eqD toPy
      rw [e]
      cases xs with
      | nil => unfold toPys at e; cases e; rfl
      | cons x r =>
        have : ps ≠ [] := fun z => by
          subst z
          unfold toPys at e
          cases e1 : toPy x with
          | none => rw [e1] at e; cases e
          | some q => cases e2 : toPys r with
            | none => rw [e1, e2] at e; cases e
            | some qs => rw [e1, e2] at e; cases e
        cases ps with
        | nil => exact absurd rfl this
        | cons q qs => rfl
    rw [e0]
    cases hx : xs.isEmpty with
    | true =>
      walk_at "st"
      exact rest m _ _ hp hp.refl
    | false =>
    have hx : xs ≠ [] := fun z => by rw [z] at hx; cases hx
    have l0 : 0 < xs.length := List.length_pos_iff.mpr hx
    walk_at "st"
    refine take_step hp (by decide) (by decide) fun r a1 b1 m2 p2 c2 => ?_
    walk_at "st"
    by_cases h0 : ¬ 0 < r
    · rw [decide_eq_false h0]
      walk_at "st"
      exact rest m2 _ _ p2 c2
    rw [decide_eq_true (show 0 < r by omega)]
    walk_at "st"
    refine take_step p2 (by omega) (by omega) fun at_ a3 b3 m3 p3 c3 => ?_
    obtain ⟨as, x, bs, rfl, ea⟩ := split_at (xs := xs) (n := at_.toNat) (by omega)
    have ea2 : at_ = (as.length : Int) := by omega
    subst ea2
    have el : (as ++ x :: bs).length = as.length + bs.length + 1 := by rw [List.length_append, List.length_cons]; omega
    have pl := put_lists h1 h2
    have fin : ∀ ys m', (ys = as ++ bs ∨ ys = as ++ x :: bs ++ [x] ∨ ys = (as ++ x :: bs).reverse ∨ ys = as ++ x :: bs ∨ ∃ x', PutOk L k x x' ∧ ys = as ++ [x'] ++ bs) → PoolAt m' p → Chg m p m' → Q (.tup ys) m' ∧ Q (.lst ys) m' := fun ys m' hy p' c' => by
      obtain ⟨q1, q2, q3⟩ := pl ys hy
      exact ⟨h _ ⟨.tup q1 q2, q3⟩ m' p' c', h _ ⟨.lst q1 q2, q3⟩ m' p' c'⟩
    walk_at "st"
    refine take_step p3 (by decide) (by decide) fun way a4 b4 m4 p4 c4 => ?_
    have c24 := (c2.trans c3).trans c4
    walk_at "st"
    by_cases w0 : way = 0
    · rw [w0]
      walk_at "st"
      rw [cut_l, cut_r]
      refine ⟨size_ok (by omega), ?_⟩
      exact (fin _ m4 (.inl rfl) p4 c24).1
    rw [show (way == 0) = false from beq_eq_false_iff_ne.mpr w0]
    walk_at "st"
    by_cases w1 : way = 1
    · rw [w1]
      walk_at "st"
      rw [cut_m]
      refine ⟨size_ok (by rw [List.length_singleton]; omega), ?_⟩
      exact (fin _ m4 (.inr (.inl rfl)) p4 c24).1
    rw [show (way == 1) = false from beq_eq_false_iff_ne.mpr w1]
    walk_at "st"
    by_cases w2 : way = 2
    · rw [w2]
      walk_at "st"
      exact (fin _ m4 (.inr (.inr (.inr (.inl rfl)))) p4 c24).2
    rw [show (way == 2) = false from beq_eq_false_iff_ne.mpr w2]
    walk_at "st"
    rw [cut_l]
    refine w_ix_t at_m ?_
    walk_at "st"
    rw [hR]
    refine ⟨p4, by omega, L, hL, hL9, h2 x (List.mem_append_right _ List.mem_cons_self), fun x' ok m5 p5 c5 => ?_⟩
    walk_at "st"
    refine ⟨size_ok (by rw [List.length_singleton]; omega), ?_⟩
    walk_at "st"
    rw [cut_r]
    refine ⟨size_ok (by rw [List.length_append, List.length_singleton]; omega), ?_⟩
    exact (fin _ m5 (.inr (.inr (.inr (.inr ⟨x', ok, rfl⟩)))) p5 (c24.trans c5)).1
  | edic hc => cases hc
  | _ =>
    walk_at "st"
    exact rest m _ _ hp hp.refl
theorem sem_L_put (j : Nat) (RS : FS) (hRS : ∀ i, j = i + 1 → RS = sr_L_put i) : ∀ ds ms Q, sr_L_put j ds ms Q → t_L_put RS { nx := fun _ m => Q .non m, rt := Q } (startD 4 ds) ms := by
  intro ds ms Q h
  unfold sr_L_put at h
  split at h
  · rename_i p d
    obtain ⟨hp, hj, L, hL, hL9, an, h⟩ := h
    have rest : ∀ m1 x2 x3, PoolAt m1 p → Chg ms p m1 → t_L_put_c1 RS { nx := fun _ m => Q .non m, rt := Q } [some (.opq (.ref p)), some d, x2, x3] m1 := fun m1 x2 x3 p1 c1 =>
      put_c1 hRS p1 an hj hL hL9 fun d' ok m2 p2 c2 => h d' ok m2 p2 (c1.trans c2)
    simp only [startD]
    unfold t_L_put
    walk_at "st"
    cases an with
    | lst h1 h2 =>
      rename_i k xs
      have hR := hRS k rfl
      walk_at "st"
      cases hx : xs.isEmpty with
      | true =>
        walk_at "st"
        exact rest ms _ _ hp hp.refl
      | false =>
      have hx : xs ≠ [] := fun z => by rw [z] at hx; cases hx
      have l0 : 0 < xs.length := List.length_pos_iff.mpr hx
      walk_at "st"
      refine take_step hp (by decide) (by decide) fun r a1 b1 m2 p2 c2 => ?_
      walk_at "st"
      by_cases h0 : ¬ 0 < r
      · rw [decide_eq_false h0]
        walk_at "st"
        exact rest m2 _ _ p2 c2
      rw [decide_eq_true (show 0 < r by omega)]
      walk_at "st"
      refine take_step p2 (by omega) (by omega) fun at_ a3 b3 m3 p3 c3 => ?_
      obtain ⟨as, x, bs, rfl, ea⟩ := split_at (xs := xs) (n := at_.toNat) (by omega)
      have ea2 : at_ = (as.length : Int) := by omega
      subst ea2
      have el : (as ++ x :: bs).length = as.length + bs.length + 1 := by rw [List.length_append, List.length_cons]; omega
      have pl := put_lists h1 h2
      have fin : ∀ ys m', (ys = as ++ bs ∨ ys = as ++ x :: bs ++ [x] ∨ ys = (as ++ x :: bs).reverse ∨ ys = as ++ x :: bs ∨ ∃ x', PutOk L k x x' ∧ ys = as ++ [x'] ++ bs) → PoolAt m' p → Chg ms p m' → Q (.tup ys) m' ∧ Q (.lst ys) m' := fun ys m' hy p' c' => by
        obtain ⟨q1, q2, q3⟩ := pl ys hy
        exact ⟨h _ ⟨.tup q1 q2, q3⟩ m' p' c', h _ ⟨.lst q1 q2, q3⟩ m' p' c'⟩
      walk_at "st"
      refine take_step p3 (by decide) (by decide) fun way a4 b4 m4 p4 c4 => ?_
      have c24 := (c2.trans c3).trans c4
      walk_at "st"
      by_cases w0 : way = 0
      · rw [w0]
        walk_at "st"
        rw [cut_l, cut_r]
        refine ⟨size_ok (by omega), ?_⟩
        exact (fin _ m4 (.inl rfl) p4 c24).2
      rw [show (way == 0) = false from beq_eq_false_iff_ne.mpr w0]
      walk_at "st"
      by_cases w1 : way = 1
      · rw [w1]
        walk_at "st"
        rw [cut_m]
        refine ⟨size_ok (by rw [List.length_singleton]; omega), ?_⟩
        exact (fin _ m4 (.inr (.inl rfl)) p4 c24).2
      rw [show (way == 1) = false from beq_eq_false_iff_ne.mpr w1]
      walk_at "st"
      by_cases w2 : way = 2
      · rw [w2]
        walk_at "st"
        exact (fin _ m4 (.inr (.inr (.inl rfl))) p4 c24).2
      rw [show (way == 2) = false from beq_eq_false_iff_ne.mpr w2]
      walk_at "st"
      by_cases w3 : way = 3
      · rw [w3]
        walk_at "st"
        exact (fin _ m4 (.inr (.inr (.inr (.inl rfl)))) p4 c24).1
      rw [show (way == 3) = false from beq_eq_false_iff_ne.mpr w3]
      walk_at "st"
      rw [cut_l]
      refine w_ix_l at_m ?_
      walk_at "st"
      rw [hR]
      refine ⟨p4, by omega, L, hL, hL9, h2 x (List.mem_append_right _ List.mem_cons_self), fun x' ok m5 p5 c5 => ?_⟩
      walk_at "st"
      refine ⟨size_ok (by rw [List.length_singleton]; omega), ?_⟩
      walk_at "st"
      rw [cut_r]
      refine ⟨size_ok (by rw [List.length_append, List.length_singleton]; omega), ?_⟩
      exact (fin _ m5 (.inr (.inr (.inr (.inr ⟨x', ok, rfl⟩)))) p5 (c24.trans c5)).2
    | edic hc => cases hc
    | _ =>
      walk_at "st"
      exact rest ms _ _ hp hp.refl
  · exact h.elim
theorem okr_L_put (T : Tx P K mg) (j : Nat) : FnG P w K mg base (3 + j) T.f_L_put T.d_L_put ["_law_pool_here", "_law_thing"] (spD K (sr_L_put j)) := by
  have G_L_odd := ok_L_odd (P := P) (w := w) (base := base) T
  have G_L_take := ok_L_take (P := P) (w := w) (base := base) T
  induction j with
  | zero =>
    have G_L_put := (FnG.none : FnG P w K mg base 2 T.f_L_put T.d_L_put ["_law_pool_here", "_law_thing"] (spD K noFS))
    exact fnG_of (k := 2) (t := t_L_put noFS) T.F_L_put sc_L_put (len_L_put _)
      (fun cdv A outer s H hr => pds_cons (pds_if (pdt_w (pdw_and (pdt_val (pd_isi .list (by decide) rfl T.n_isinstance rfl T.n_list (by decide +kernel) (by decide) (by decide) (pd_var 1))) (pdw_and (pdt_cmp (op_neF hr.r.units) opd_ne (pd_var 1) (pd_lst (pda_nil))) (pdw_and1 (pdt_cmp op_gt opd_gt (pd_call G_L_take (hr.mono (by omega)) rfl T.g_L_take T.F_L_take.kp T.b_L_take_2 (pda_cons (pd_var 0) (pda_cons (pd_int) (pda_nil)))) (pd_int)))))) (pds_cons (pds_set (i := 2) sc_L_put.nd rfl (.inl rfl) (pd_call G_L_take (hr.mono (by omega)) rfl T.g_L_take T.F_L_take.kp T.b_L_take_2 (pda_cons (pd_var 0) (pda_cons (pd_callB call_len cal_len rfl T.n_len (by decide +kernel) (pda_cons (pd_var 1) (pda_nil))) (pda_nil))))) (pds_cons (pds_set (i := 3) sc_L_put.nd rfl (.inl rfl) (pd_call G_L_take (hr.mono (by omega)) rfl T.g_L_take T.F_L_take.kp T.b_L_take_2 (pda_cons (pd_var 0) (pda_cons (pd_int) (pda_nil))))) (pds_cons (pds_if (pdt_cmp (op_eqF hr.r.units) opd_eq (pd_var 3) (pd_int)) (pds_one (pds_ret (pd_op op_addD opd_add (pd_slice (pd_var 1) (pdo_none) (pdo_some (pd_var 2))) (pd_slice (pd_var 1) (pdo_some (pd_op op_addD opd_add (pd_var 2) (pd_int))) (pdo_none))))) (pds_nil)) (pds_cons (pds_if (pdt_cmp (op_eqF hr.r.units) opd_eq (pd_var 3) (pd_int)) (pds_one (pds_ret (pd_op op_addD opd_add (pd_var 1) (pd_slice (pd_var 1) (pdo_some (pd_var 2)) (pdo_some (pd_op op_addD opd_add (pd_var 2) (pd_int))))))) (pds_nil)) (pds_cons (pds_if (pdt_cmp (op_eqF hr.r.units) opd_eq (pd_var 3) (pd_int)) (pds_one (pds_ret (pd_revL (pd_var 1)))) (pds_nil)) (pds_cons (pds_if (pdt_cmp (op_eqF hr.r.units) opd_eq (pd_var 3) (pd_int)) (pds_one (pds_ret (pd_callTy call_tuple_of cal_tuple rfl T.n_tuple (by decide +kernel) (pda_cons (pd_var 1) (pda_nil))))) (pds_nil)) (pds_one (pds_ret (pd_op op_addD opd_add (pd_op op_addD opd_add (pd_slice (pd_var 1) (pdo_none) (pdo_some (pd_var 2))) (pd_lst (pda_cons (pd_call G_L_put (hr.mono (by omega)) rfl T.g_L_put T.F_L_put.kp T.b_L_put_2 (pda_cons (pd_var 0) (pda_cons (pd_ix ix_seq opd_ix (pd_var 1) (pd_var 2)) (pda_nil)))) (pda_nil)))) (pd_slice (pd_var 1) (pdo_some (pd_op op_addD opd_add (pd_var 2) (pd_int))) (pdo_none))))))))))) (pds_nil)) (pds_cons (pds_if (pdt_w (pdw_and (pdt_val (pd_isi .tuple (by decide) rfl T.n_isinstance rfl T.n_tuple (by decide +kernel) (by decide) (by decide) (pd_var 1))) (pdw_and (pdt_cmp (op_neF hr.r.units) opd_ne (pd_var 1) (pd_tup (pda_nil))) (pdw_and1 (pdt_cmp op_gt opd_gt (pd_call G_L_take (hr.mono (by omega)) rfl T.g_L_take T.F_L_take.kp T.b_L_take_2 (pda_cons (pd_var 0) (pda_cons (pd_int) (pda_nil)))) (pd_int)))))) (pds_cons (pds_set (i := 2) sc_L_put.nd rfl (.inl rfl) (pd_call G_L_take (hr.mono (by omega)) rfl T.g_L_take T.F_L_take.kp T.b_L_take_2 (pda_cons (pd_var 0) (pda_cons (pd_callB call_len cal_len rfl T.n_len (by decide +kernel) (pda_cons (pd_var 1) (pda_nil))) (pda_nil))))) (pds_cons (pds_set (i := 3) sc_L_put.nd rfl (.inl rfl) (pd_call G_L_take (hr.mono (by omega)) rfl T.g_L_take T.F_L_take.kp T.b_L_take_2 (pda_cons (pd_var 0) (pda_cons (pd_int) (pda_nil))))) (pds_cons (pds_if (pdt_cmp (op_eqF hr.r.units) opd_eq (pd_var 3) (pd_int)) (pds_one (pds_ret (pd_op op_addD opd_add (pd_slice (pd_var 1) (pdo_none) (pdo_some (pd_var 2))) (pd_slice (pd_var 1) (pdo_some (pd_op op_addD opd_add (pd_var 2) (pd_int))) (pdo_none))))) (pds_nil)) (pds_cons (pds_if (pdt_cmp (op_eqF hr.r.units) opd_eq (pd_var 3) (pd_int)) (pds_one (pds_ret (pd_op op_addD opd_add (pd_var 1) (pd_slice (pd_var 1) (pdo_some (pd_var 2)) (pdo_some (pd_op op_addD opd_add (pd_var 2) (pd_int))))))) (pds_nil)) (pds_cons (pds_if (pdt_cmp (op_eqF hr.r.units) opd_eq (pd_var 3) (pd_int)) (pds_one (pds_ret (pd_callTy call_list_of cal_list rfl T.n_list (by decide +kernel) (pda_cons (pd_var 1) (pda_nil))))) (pds_nil)) (pds_one (pds_ret (pd_op op_addD opd_add (pd_op op_addD opd_add (pd_slice (pd_var 1) (pdo_none) (pdo_some (pd_var 2))) (pd_tup (pda_cons (pd_call G_L_put (hr.mono (by omega)) rfl T.g_L_put T.F_L_put.kp T.b_L_put_2 (pda_cons (pd_var 0) (pda_cons (pd_ix ix_seq opd_ix (pd_var 1) (pd_var 2)) (pda_nil)))) (pda_nil)))) (pd_slice (pd_var 1) (pdo_some (pd_op op_addD opd_add (pd_var 2) (pd_int))) (pdo_none)))))))))) (pds_nil)) (pds_cons (pds_if (pdt_w (pdw_and (pdt_val (pd_isi .int (by decide) rfl T.n_isinstance rfl T.n_int (by decide +kernel) (by decide) (by decide) (pd_var 1))) (pdw_and (pdt_not (pdt_val (pd_isi .bool (by decide) rfl T.n_isinstance rfl T.n_bool (by decide +kernel) (by decide) (by decide) (pd_var 1)))) (pdw_and1 (pdt_cmp op_gt opd_gt (pd_call G_L_take (hr.mono (by omega)) rfl T.g_L_take T.F_L_take.kp T.b_L_take_2 (pda_cons (pd_var 0) (pda_cons (pd_int) (pda_nil)))) (pd_int)))))) (pds_one (pds_ret (pd_op op_sub opd_sub (pd_op op_addD opd_add (pd_var 1) (pd_int)) (pd_op op_mulA opd_mul (pd_int) (pd_call G_L_take (hr.mono (by omega)) rfl T.g_L_take T.F_L_take.kp T.b_L_take_2 (pda_cons (pd_var 0) (pda_cons (pd_int) (pda_nil)))))))) (pds_nil)) (pds_one (pds_ret (pd_call G_L_odd (hr.mono (by omega)) rfl T.g_L_odd T.F_L_odd.kp T.b_L_odd_2 (pda_cons (pd_var 0) (pda_cons (pd_var 1) (pda_nil)))))))))
      (sem_L_put _ _ (fun i e => by first | (injection e with e; subst e; rfl) | cases e))
  | succ j ih =>
    have G_L_put := ih
    exact fnG_of (k := 3 + j) (t := t_L_put (sr_L_put j)) T.F_L_put sc_L_put (len_L_put _)
      (fun cdv A outer s H hr => pds_cons (pds_if (pdt_w (pdw_and (pdt_val (pd_isi .list (by decide) rfl T.n_isinstance rfl T.n_list (by decide +kernel) (by decide) (by decide) (pd_var 1))) (pdw_and (pdt_cmp (op_neF hr.r.units) opd_ne (pd_var 1) (pd_lst (pda_nil))) (pdw_and1 (pdt_cmp op_gt opd_gt (pd_call G_L_take (hr.mono (by omega)) rfl T.g_L_take T.F_L_take.kp T.b_L_take_2 (pda_cons (pd_var 0) (pda_cons (pd_int) (pda_nil)))) (pd_int)))))) (pds_cons (pds_set (i := 2) sc_L_put.nd rfl (.inl rfl) (pd_call G_L_take (hr.mono (by omega)) rfl T.g_L_take T.F_L_take.kp T.b_L_take_2 (pda_cons (pd_var 0) (pda_cons (pd_callB call_len cal_len rfl T.n_len (by decide +kernel) (pda_cons (pd_var 1) (pda_nil))) (pda_nil))))) (pds_cons (pds_set (i := 3) sc_L_put.nd rfl (.inl rfl) (pd_call G_L_take (hr.mono (by omega)) rfl T.g_L_take T.F_L_take.kp T.b_L_take_2 (pda_cons (pd_var 0) (pda_cons (pd_int) (pda_nil))))) (pds_cons (pds_if (pdt_cmp (op_eqF hr.r.units) opd_eq (pd_var 3) (pd_int)) (pds_one (pds_ret (pd_op op_addD opd_add (pd_slice (pd_var 1) (pdo_none) (pdo_some (pd_var 2))) (pd_slice (pd_var 1) (pdo_some (pd_op op_addD opd_add (pd_var 2) (pd_int))) (pdo_none))))) (pds_nil)) (pds_cons (pds_if (pdt_cmp (op_eqF hr.r.units) opd_eq (pd_var 3) (pd_int)) (pds_one (pds_ret (pd_op op_addD opd_add (pd_var 1) (pd_slice (pd_var 1) (pdo_some (pd_var 2)) (pdo_some (pd_op op_addD opd_add (pd_var 2) (pd_int))))))) (pds_nil)) (pds_cons (pds_if (pdt_cmp (op_eqF hr.r.units) opd_eq (pd_var 3) (pd_int)) (pds_one (pds_ret (pd_revL (pd_var 1)))) (pds_nil)) (pds_cons (pds_if (pdt_cmp (op_eqF hr.r.units) opd_eq (pd_var 3) (pd_int)) (pds_one (pds_ret (pd_callTy call_tuple_of cal_tuple rfl T.n_tuple (by decide +kernel) (pda_cons (pd_var 1) (pda_nil))))) (pds_nil)) (pds_one (pds_ret (pd_op op_addD opd_add (pd_op op_addD opd_add (pd_slice (pd_var 1) (pdo_none) (pdo_some (pd_var 2))) (pd_lst (pda_cons (pd_call G_L_put (hr.mono (by omega)) rfl T.g_L_put T.F_L_put.kp T.b_L_put_2 (pda_cons (pd_var 0) (pda_cons (pd_ix ix_seq opd_ix (pd_var 1) (pd_var 2)) (pda_nil)))) (pda_nil)))) (pd_slice (pd_var 1) (pdo_some (pd_op op_addD opd_add (pd_var 2) (pd_int))) (pdo_none))))))))))) (pds_nil)) (pds_cons (pds_if (pdt_w (pdw_and (pdt_val (pd_isi .tuple (by decide) rfl T.n_isinstance rfl T.n_tuple (by decide +kernel) (by decide) (by decide) (pd_var 1))) (pdw_and (pdt_cmp (op_neF hr.r.units) opd_ne (pd_var 1) (pd_tup (pda_nil))) (pdw_and1 (pdt_cmp op_gt opd_gt (pd_call G_L_take (hr.mono (by omega)) rfl T.g_L_take T.F_L_take.kp T.b_L_take_2 (pda_cons (pd_var 0) (pda_cons (pd_int) (pda_nil)))) (pd_int)))))) (pds_cons (pds_set (i := 2) sc_L_put.nd rfl (.inl rfl) (pd_call G_L_take (hr.mono (by omega)) rfl T.g_L_take T.F_L_take.kp T.b_L_take_2 (pda_cons (pd_var 0) (pda_cons (pd_callB call_len cal_len rfl T.n_len (by decide +kernel) (pda_cons (pd_var 1) (pda_nil))) (pda_nil))))) (pds_cons (pds_set (i := 3) sc_L_put.nd rfl (.inl rfl) (pd_call G_L_take (hr.mono (by omega)) rfl T.g_L_take T.F_L_take.kp T.b_L_take_2 (pda_cons (pd_var 0) (pda_cons (pd_int) (pda_nil))))) (pds_cons (pds_if (pdt_cmp (op_eqF hr.r.units) opd_eq (pd_var 3) (pd_int)) (pds_one (pds_ret (pd_op op_addD opd_add (pd_slice (pd_var 1) (pdo_none) (pdo_some (pd_var 2))) (pd_slice (pd_var 1) (pdo_some (pd_op op_addD opd_add (pd_var 2) (pd_int))) (pdo_none))))) (pds_nil)) (pds_cons (pds_if (pdt_cmp (op_eqF hr.r.units) opd_eq (pd_var 3) (pd_int)) (pds_one (pds_ret (pd_op op_addD opd_add (pd_var 1) (pd_slice (pd_var 1) (pdo_some (pd_var 2)) (pdo_some (pd_op op_addD opd_add (pd_var 2) (pd_int))))))) (pds_nil)) (pds_cons (pds_if (pdt_cmp (op_eqF hr.r.units) opd_eq (pd_var 3) (pd_int)) (pds_one (pds_ret (pd_callTy call_list_of cal_list rfl T.n_list (by decide +kernel) (pda_cons (pd_var 1) (pda_nil))))) (pds_nil)) (pds_one (pds_ret (pd_op op_addD opd_add (pd_op op_addD opd_add (pd_slice (pd_var 1) (pdo_none) (pdo_some (pd_var 2))) (pd_tup (pda_cons (pd_call G_L_put (hr.mono (by omega)) rfl T.g_L_put T.F_L_put.kp T.b_L_put_2 (pda_cons (pd_var 0) (pda_cons (pd_ix ix_seq opd_ix (pd_var 1) (pd_var 2)) (pda_nil)))) (pda_nil)))) (pd_slice (pd_var 1) (pdo_some (pd_op op_addD opd_add (pd_var 2) (pd_int))) (pdo_none)))))))))) (pds_nil)) (pds_cons (pds_if (pdt_w (pdw_and (pdt_val (pd_isi .int (by decide) rfl T.n_isinstance rfl T.n_int (by decide +kernel) (by decide) (by decide) (pd_var 1))) (pdw_and (pdt_not (pdt_val (pd_isi .bool (by decide) rfl T.n_isinstance rfl T.n_bool (by decide +kernel) (by decide) (by decide) (pd_var 1)))) (pdw_and1 (pdt_cmp op_gt opd_gt (pd_call G_L_take (hr.mono (by omega)) rfl T.g_L_take T.F_L_take.kp T.b_L_take_2 (pda_cons (pd_var 0) (pda_cons (pd_int) (pda_nil)))) (pd_int)))))) (pds_one (pds_ret (pd_op op_sub opd_sub (pd_op op_addD opd_add (pd_var 1) (pd_int)) (pd_op op_mulA opd_mul (pd_int) (pd_call G_L_take (hr.mono (by omega)) rfl T.g_L_take T.F_L_take.kp T.b_L_take_2 (pda_cons (pd_var 0) (pda_cons (pd_int) (pda_nil)))))))) (pds_nil)) (pds_one (pds_ret (pd_call G_L_odd (hr.mono (by omega)) rfl T.g_L_odd T.F_L_odd.kp T.b_L_odd_2 (pda_cons (pd_var 0) (pda_cons (pd_var 1) (pda_nil)))))))))
      (sem_L_put _ _ (fun i e => by first | (injection e with e; subst e; rfl) | cases e))
theorem ok_L_put (T : Tx P K mg) : FnG P w K mg base 9 T.f_L_put T.d_L_put ["_law_pool_here", "_law_thing"] (spD K sp_L_put) := okr_L_put T 6
/-! L_right -/
def sp_L_right : FS := fun ds ms P => match ds with
  | [d, x] => ∃ (g : Pg), d = pgD g ∧ PgOk 500 g ∧ AnyX 110 x ∧ Shw (.lst [d, x]) ∧ P (.bl true) ms
  | _ => False
theorem len_L_right : ∀ ds ms Q, sp_L_right ds ms Q → ds.length = 2 := fun ds ms Q h => by
  unfold sp_L_right at h
  split at h <;> first | rfl | exact h.elim
def t_L_right : DTS := dSeq (dAsg (dCB cRepr (aCons (dLst (aCons (dVar 0) (aCons (dVar 1) (aNil)))) (aNil))) (sName 2)) (dSeq (dAsg (dCall 2 0 [0, 1] sp_p_lets_round (aCons (dVar 0) (aCons (dVar 1) (aNil))) (aNil)) (sName 3)) (dRet (dAndV (dIsi .bool (dVar 3)) (dAndV (dOp fEq (dVar 3) (dCall 2 0 [0, 1] sp_L_is_lap (aCons (dVar 0) (aCons (dVar 1) (aNil))) (aNil))) (dOp fEq (dCB cRepr (aCons (dLst (aCons (dVar 0) (aCons (dVar 1) (aNil)))) (aNil))) (dVar 2))))))
theorem sem_L_right : ∀ ds ms Q, sp_L_right ds ms Q → t_L_right { nx := fun _ m => Q .non m, rt := Q } (startD 4 ds) ms := by
  intro ds ms Q h
  unfold sp_L_right at h
  split at h
  · obtain ⟨g, rfl, ok, an, sw, h⟩ := h
    simp only [startD]
    unfold t_L_right
    walk_at "st"
    refine ⟨sw, ?_⟩
    walk_at "st"
    refine ⟨g, rfl, ok, an, ?_⟩
    walk_at "st"
    refine ⟨g, rfl, ok, an, ?_⟩
    walk_at "st"
    rw [if_pos (by simp)]
    walk_at "st"
    refine ⟨sw, ?_⟩
    walk_at "st"
    rw [show (repS (D.lst [pgD g, _]) == repS (D.lst [pgD g, _])) = true from beq_self_eq_true _]
    exact h
  · exact h.elim
theorem ok_L_right (T : Tx P K mg) : FnG P w K mg base 10 T.f_L_right T.d_L_right ["_law_program", "_law_thing"] (spD K sp_L_right) := by
  have G_p_lets_round := ok_p_lets_round (P := P) (w := w) (base := base) T
  have G_L_is_lap := ok_L_is_lap (P := P) (w := w) (base := base) T
  exact fnG_of (k := 9) (t := t_L_right) T.F_L_right sc_L_right len_L_right
    (fun cdv A outer s H hr => pds_cons (pds_set (i := 2) sc_L_right.nd rfl (.inl rfl) (pd_callB (call_reprD hr) cal_repr rfl T.n_repr (by decide +kernel) (pda_cons (pd_lst (pda_cons (pd_var 0) (pda_cons (pd_var 1) (pda_nil)))) (pda_nil)))) (pds_cons (pds_set (i := 3) sc_L_right.nd rfl (.inl rfl) (pd_call G_p_lets_round (hr.mono (by decide)) rfl T.g_p_lets_round T.F_p_lets_round.kp T.b_p_lets_round_2 (pda_cons (pd_var 0) (pda_cons (pd_var 1) (pda_nil))))) (pds_one (pds_ret (pd_and (pd_isi .bool (by decide) rfl T.n_isinstance rfl T.n_bool (by decide +kernel) (by decide) (by decide) (pd_var 3)) (pd_and (pd_cmp (op_eqF hr.r.units) opd_eq (pd_var 3) (pd_call G_L_is_lap (hr.mono (by decide)) rfl T.g_L_is_lap T.F_L_is_lap.kp T.b_L_is_lap_2 (pda_cons (pd_var 0) (pda_cons (pd_var 1) (pda_nil))))) (pd_one (pd_cmp (op_eqF hr.r.units) opd_eq (pd_callB (call_reprD hr) cal_repr rfl T.n_repr (by decide +kernel) (pda_cons (pd_lst (pda_cons (pd_var 0) (pda_cons (pd_var 1) (pda_nil)))) (pda_nil))) (pd_var 2)))))))))
    sem_L_right
/-! L_twice -/
def twS (st dr : List (List (Int × Int))) : List (List (Int × Int)) := st.dropLast ++ List.zipWith (List.zipWith addT) st dr
def twD (dr : List (List (Int × Int))) : List (List (Int × Int)) := (dr.map fun d => List.zipWith addT d d).dropLast ++ dr.map fun d => List.zipWith addT d d
/-- so many lists of so many numbers of a size -/
structure Nums (n k N M : Nat) (st : List (List (Int × Int))) : Prop where
  ln : st.length = k + 1
  ok : ∀ s ∈ st, s.length = n ∧ ∀ x ∈ s, Low x ∧ FB N M x
def sp_L_twice : FS := fun ds ms P => match ds with
  | [x] => ∃ (rows : List Nat) (st dr : List (List (Int × Int))) (n : Nat), x = lapL rows st dr ∧ n ≤ 3 ∧ rows.length ≤ 100 ∧ Nums n rows.length 100 100 st ∧ Nums n rows.length 100 100 dr ∧ P (lapL (rows ++ rows) (twS st dr) (twD dr)) ms
  | _ => False
theorem len_L_twice : ∀ ds ms Q, sp_L_twice ds ms Q → ds.length = 1 := fun ds ms Q h => by
  unfold sp_L_twice at h
  split at h <;> first | rfl | exact h.elim
def t_L_twice : DTS := dSeq (dAsg (dVar 0) (sTup 3 (sCons (sName 1) (sCons (sName 2) (sCons (sName 3) (sNil)))))) (dSeq (dAsg (dLc (iZipD (aCons (dVar 2) (aCons (dVar 3) (aNil)))) (sTup 2 (sCons (sName 6) (sCons (sName 7) (sNil)))) (dYes) (dCall 2 0 [0, 1] sp_L_all (aCons (dVar 6) (aCons (dVar 7) (aNil))) (aNil)) [6, 7]) (sName 4)) (dSeq (dAsg (dLc (iSeq (dVar 3)) (sName 7) (dYes) (dCall 2 0 [0, 1] sp_L_all (aCons (dVar 7) (aCons (dVar 7) (aNil))) (aNil)) [7]) (sName 5)) (dRet (dTup (aCons (dOp fAdd (dVar 1) (dVar 1)) (aCons (dOp fAdd (dSl (dVar 2) (oNone) (oSome (dNeg (dC (.int 1))))) (dVar 4)) (aCons (dOp fAdd (dSl (dVar 5) (oNone) (oSome (dNeg (dC (.int 1))))) (dVar 5)) (aNil))))))))
theorem cut_last {α : Type} (xs : List α) (x : α) : cutL (xs ++ [x]) none (some (-1)) = xs := by
  unfold cutL
  have e : HT.sIx (xs ++ [x]).length (xs ++ [x]).length (some (-1)) = xs.length := by
    have h : (xs ++ [x]).length = xs.length + 1 := by simp
    rw [h]
    simp only [HT.sIx]
    first
      | omega
      | (split <;> omega)
      | (simp; omega)
  rw [e, HT.sIx_none]
  simp
theorem cut_dl {α : Type} {xs : List α} (h : xs ≠ []) : cutL xs none (some (-1)) = xs.dropLast := by
  conv => lhs; rw [← List.dropLast_concat_getLast h]
  exact cut_last _ _
theorem zip_mapD {α β γ : Type} (f : α → β → γ) (h : γ → D) (as : List α) (bs : List β) : (as.zip bs).map (fun p => h (f p.1 p.2)) = (List.zipWith f as bs).map h := by
  rw [List.map_zipWith, ← List.map_uncurry_zip_eq_zipWith]; rfl
theorem sem_L_twice : ∀ ds ms Q, sp_L_twice ds ms Q → t_L_twice { nx := fun _ m => Q .non m, rt := Q } (startD 8 ds) ms := by
  intro ds ms Q h
  unfold sp_L_twice at h
  split at h
  · obtain ⟨rows, st, dr, n, rfl, n3, r1, hs, hd, h⟩ := h
    have ls := hs.ln
    have ld := hd.ln
    simp only [startD]
    unfold t_L_twice lapL
    walk_at "st"
    rw [zipD_mp]
    simp only [wipeD, List.set]
    refine comp_e (fun p : List (Int × Int) × List (Int × Int) => D.tup [frsD p.1, frsD p.2]) (fun p => frsD (List.zipWith addT p.1 p.2)) (st.zip dr) [] _ (by rw [List.length_zip, List.length_nil]; omega) (fun p hp P0 q => ?_) ?_
    · have f1 := hs.ok _ (List.of_mem_zip hp).1
      have f2 := hd.ok _ (List.of_mem_zip hp).2
      unfold frsD at *
      walk_at "st"
      exact ⟨p.1, p.2, rfl, rfl, by omega, fun s h => (f1.2 s h).2.mono (by decide) (by decide), fun s h => (f2.2 s h).2.mono (by decide) (by decide), q⟩
    rw [List.nil_append, zip_mapD (List.zipWith addT) frsD]
    walk_at "st"
    simp only [wipeD, List.set]
    refine comp_e frsD (fun d => frsD (List.zipWith addT d d)) dr [] _ (by rw [List.length_nil]; omega) (fun d hd' P0 q => ?_) ?_
    · have f2 := hd.ok _ hd'
      unfold frsD at *
      walk_at "st"
      exact ⟨d, d, rfl, rfl, by omega, fun s h => (f2.2 s h).2.mono (by decide) (by decide), fun s h => (f2.2 s h).2.mono (by decide) (by decide), q⟩
    rw [List.nil_append]
    walk_at "st"
    refine ⟨size_ok (by rw [natL_len]; omega), ?_⟩
    walk_at "st"
    have s0 : st ≠ [] := fun z => by rw [z] at ls; cases ls
    have d0 : dr ≠ [] := fun z => by rw [z] at ld; cases ld
    rw [cut_dl (fun z => s0 (List.map_eq_nil_iff.mp z))]
    refine ⟨size_ok (by rw [List.length_dropLast, List.length_map, List.length_map, List.length_zipWith]; omega), ?_⟩
    walk_at "st"
    rw [cut_dl (fun z => d0 (List.map_eq_nil_iff.mp z))]
    refine ⟨size_ok (by rw [List.length_dropLast, List.length_map]; omega), ?_⟩
    have e1 : natL rows ++ natL rows = natL (rows ++ rows) := (List.map_append ..).symm
    have e2 : (st.map frsD).dropLast ++ (List.zipWith (List.zipWith addT) st dr).map frsD = (twS st dr).map frsD := by
      unfold twS
      rw [List.map_append, List.map_dropLast]
    have e3 : (dr.map fun d => frsD (List.zipWith addT d d)).dropLast ++ (dr.map fun d => frsD (List.zipWith addT d d)) = (twD dr).map frsD := by
      unfold twD
      rw [List.map_append, List.map_dropLast, List.map_map]; rfl
    rw [e1, e2, e3]
    walk_at "st"
    exact h
  · exact h.elim
/-! what is gone twice is a round too -/
theorem val_zip : ∀ (xs ys : List (Int × Int)), xs.length = ys.length → (∀ x ∈ xs, Low x) → (∀ y ∈ ys, Low y) → ∀ fs : List Int, dtR fs ((List.zipWith addT xs ys).map val) = dtR fs (xs.map val) + dtR fs (ys.map val)
  | [], [], _, _, _, fs => by cases fs <;> (simp only [List.zipWith_nil_left, List.map_nil]; unfold dtR; grind)
  | [], _ :: _, h, _, _, _ => by cases h
  | _ :: _, [], h, _, _, _ => by cases h
  | x :: xs, y :: ys, h, hx, hy, fs => by
    cases fs with
    | nil => unfold dtR; grind
    | cons f fs =>
      rw [List.zipWith_cons_cons, List.map_cons, List.map_cons, List.map_cons]
      show (f : Rat) * val (addT x y) + dtR fs ((List.zipWith addT xs ys).map val) = (f : Rat) * val x + dtR fs (xs.map val) + ((f : Rat) * val y + dtR fs (ys.map val))
      rw [val_zip xs ys (by simpa using h) (fun z hz => hx z (List.mem_cons_of_mem _ hz)) (fun z hz => hy z (List.mem_cons_of_mem _ hz)) fs, val_add (hx x List.mem_cons_self).ne (hy y List.mem_cons_self).ne]
      grind
theorem wan_add {w : Wi} {m m' m'' : Int × Int} {xs ys : List (Int × Int)} (h : Wan w m xs) (h' : Wan w m' ys) (hl : xs.length = ys.length) (lx : ∀ x ∈ xs, Low x) (ly : ∀ y ∈ ys, Low y) (hm : val m'' = val m + val m') : Wan w m'' (List.zipWith addT xs ys) := by
  have e : (w.l : Rat) * val m'' + dtR w.fs ((List.zipWith addT xs ys).map val) = ((w.l : Rat) * val m + dtR w.fs (xs.map val)) + ((w.l : Rat) * val m' + dtR w.fs (ys.map val)) := by
    rw [val_zip xs ys hl lx ly, hm]; grind
  refine ⟨?_, fun z => ?_⟩
  · rw [e]
    have h1 := h.nn
    have h2 := h'.nn
    grind
  · rw [e, h.z z, h'.z z]; grind
section
variable {st dr : List (List (Int × Int))} {R : Nat}
theorem gd_app_l {α : Type} {xs ys : List α} {d : α} {i : Nat} (h : i < xs.length) : (xs ++ ys).getD i d = xs.getD i d := by
  rw [List.getD_eq_getElem?_getD, List.getElem?_append_left h, ← List.getD_eq_getElem?_getD]
theorem gd_app_r {α : Type} {xs ys : List α} {d : α} {i j : Nat} (h : i = xs.length + j) : (xs ++ ys).getD i d = ys.getD j d := by
  rw [List.getD_eq_getElem?_getD, List.getElem?_append_right (by omega), ← List.getD_eq_getElem?_getD, h, Nat.add_sub_cancel_left]
theorem gd_dl {α : Type} {xs : List α} {d : α} {i : Nat} (h : i + 1 < xs.length) : xs.dropLast.getD i d = xs.getD i d := by
  rw [List.getD_eq_getElem?_getD, List.getElem?_dropLast, if_pos (by omega), ← List.getD_eq_getElem?_getD]
theorem gd_zip {i : Nat} (h1 : i < st.length) (h2 : i < dr.length) : (List.zipWith (List.zipWith addT) st dr).getD i [] = List.zipWith addT (st.getD i []) (dr.getD i []) := by
  rw [List.getD_eq_getElem?_getD, List.getElem?_zipWith, (getD_mem [] h1).1, (getD_mem [] h2).1]; rfl
theorem gd_dbl {i : Nat} (h : i < dr.length) : (dr.map fun d => List.zipWith addT d d).getD i [] = List.zipWith addT (dr.getD i []) (dr.getD i []) := by
  rw [List.getD_eq_getElem?_getD, List.getElem?_map, (getD_mem [] h).1]; rfl
theorem twS_l (hs : st.length = R + 1) {i : Nat} (h : i < R) : (twS st dr).getD i [] = st.getD i [] := by
  unfold twS
  rw [gd_app_l (by rw [List.length_dropLast]; omega), gd_dl (by omega)]
theorem twS_r (hs : st.length = R + 1) (hd : dr.length = R + 1) {j : Nat} (h : j ≤ R) : (twS st dr).getD (R + j) [] = List.zipWith addT (st.getD j []) (dr.getD j []) := by
  unfold twS
  rw [gd_app_r (j := j) (by rw [List.length_dropLast]; omega), gd_zip (by omega) (by omega)]
theorem twD_l (hd : dr.length = R + 1) {i : Nat} (h : i < R) : (twD dr).getD i [] = List.zipWith addT (dr.getD i []) (dr.getD i []) := by
  unfold twD
  rw [gd_app_l (by rw [List.length_dropLast, List.length_map]; omega), gd_dl (by rw [List.length_map]; omega), gd_dbl (by omega)]
theorem twD_r (hd : dr.length = R + 1) {j : Nat} (h : j ≤ R) : (twD dr).getD (R + j) [] = List.zipWith addT (dr.getD j []) (dr.getD j []) := by
  unfold twD
  rw [gd_app_r (j := j) (by rw [List.length_dropLast, List.length_map]; omega), gd_dbl (by omega)]
theorem twS_len (hs : st.length = R + 1) (hd : dr.length = R + 1) : (twS st dr).length = R + R + 1 := by
  unfold twS
  rw [List.length_append, List.length_dropLast, List.length_zipWith]; omega
theorem twD_len (hd : dr.length = R + 1) : (twD dr).length = R + R + 1 := by
  unfold twD
  rw [List.length_append, List.length_dropLast, List.length_map]; omega
theorem zip_nums {n A B C D k : Nat} {xs ys : List (Int × Int)} (hx : xs.length = n ∧ ∀ x ∈ xs, Low x ∧ FB A B x) (hy : ys.length = n ∧ ∀ y ∈ ys, Low y ∧ FB C D y) (k1 : A + D ≤ k) (k2 : C + B ≤ k) : (List.zipWith addT xs ys).length = n ∧ ∀ z ∈ List.zipWith addT xs ys, Low z ∧ FB (k + 1) (B + D) z := by
  refine ⟨by rw [List.length_zipWith]; omega, fun z hz => ?_⟩
  rw [← List.map_uncurry_zip_eq_zipWith] at hz
  obtain ⟨p, hp, rfl⟩ := List.mem_map.mp hz
  have h1 := hx.2 _ (List.of_mem_zip hp).1
  have h2 := hy.2 _ (List.of_mem_zip hp).2
  exact ⟨low_add h1.1.ne h2.1.ne, fb_add h1.2 h2.2 k1 k2⟩
theorem nums_twS {n A B C D k : Nat} (hs : Nums n R A B st) (hd : Nums n R C D dr) (k1 : A + D ≤ k) (k2 : C + B ≤ k) : Nums n (R + R) (k + 1) (B + D) (twS st dr) := by
  refine ⟨twS_len hs.ln hd.ln, fun s h => ?_⟩
  unfold twS at h
  rcases List.mem_append.mp h with h | h
  · have := hs.ok s (List.dropLast_subset _ h)
    exact ⟨this.1, fun x hx => ⟨(this.2 x hx).1, (this.2 x hx).2.mono (by omega) (by omega)⟩⟩
  · rw [← List.map_uncurry_zip_eq_zipWith] at h
    obtain ⟨p, hp, rfl⟩ := List.mem_map.mp h
    exact zip_nums (hs.ok _ (List.of_mem_zip hp).1) (hd.ok _ (List.of_mem_zip hp).2) k1 k2
theorem nums_twD {n C D k : Nat} (hd : Nums n R C D dr) (k1 : C + D ≤ k) : Nums n (R + R) (k + 1) (D + D) (twD dr) := by
  refine ⟨twD_len hd.ln, fun s h => ?_⟩
  have : ∃ d ∈ dr, s = List.zipWith addT d d := by
    unfold twD at h
    rcases List.mem_append.mp h with h | h
    · obtain ⟨d, hd, e⟩ := List.mem_map.mp (List.dropLast_subset _ h)
      exact ⟨d, hd, e.symm⟩
    · obtain ⟨d, hd, e⟩ := List.mem_map.mp h
      exact ⟨d, hd, e.symm⟩
  obtain ⟨d, hd', rfl⟩ := this
  exact zip_nums (hd.ok d hd') (hd.ok d hd') k1 k1
end
theorem clo_twice {g : Pg} {rows : List Nat} (l1 : 1 ≤ rows.length) (h : Clo g rows) : Clo g (rows ++ rows) := by
  intro i hi
  rw [List.length_append] at hi ⊢
  have at_ : ∀ i, i < rows.length + rows.length → (rows ++ rows).getD i 0 = rows.getD (i % rows.length) 0 := fun i hi => by
    by_cases h : i < rows.length
    · rw [gd_app_l h, Nat.mod_eq_of_lt h]
    · rw [gd_app_r (j := i - rows.length) (by omega), Nat.mod_eq_sub_mod (by omega), Nat.mod_eq_of_lt (by omega)]
  have := h (i % rows.length) (Nat.mod_lt _ (by omega))
  rw [at_ i hi, at_ _ (Nat.mod_lt _ (by omega)), this]
  have e : (i + 1) % (rows.length + rows.length) % rows.length = (i % rows.length + 1) % rows.length := by
    rw [Nat.mod_mod_of_dvd _ ⟨2, by omega⟩, Nat.mod_add_mod]
  rw [e]
theorem LapOk.twice {g : Pg} {rows : List Nat} {st dr : List (List (Int × Int))} (h : LapOk g rows st dr) (h6 : rows.length ≤ 6) : LapOk g (rows ++ rows) (twS st dr) (twD dr) := by
  have hs := h.sl
  have hd := h.dl
  have l1 := h.l1
  generalize hR : rows.length = R at hs hd l1 h6
  have ws := h.rd.wa
  have dz := h.rd.dz
  have sz := h.rd.sz
  rw [hR] at ws dz sz
  have s_ : ∀ i, i ≤ R → (st.getD i []).length = g.nm.length ∧ ∀ x ∈ st.getD i [], Low x := fun i hi => h.sf _ (getD_mem [] (by omega)).2
  have d_ : ∀ i, i ≤ R → (dr.getD i []).length = g.nm.length ∧ ∀ x ∈ dr.getD i [], Low x := fun i hi => h.df _ (getD_mem [] (by omega)).2
  have eR : List.zipWith addT (st.getD 0 []) (dr.getD 0 []) = st.getD R [] := (add_iff (s_ 0 (by omega)).1 (s_ R (Nat.le_refl _)).1 (d_ 0 (by omega)).1 (s_ 0 (by omega)).2 (s_ R (Nat.le_refl _)).2 (d_ 0 (by omega)).2).mpr sz
  have sl : ∀ i, i ≤ R → (twS st dr).getD i [] = st.getD i [] := fun i hi => by
    by_cases e : i < R
    · exact twS_l hs e
    · obtain rfl : i = R := by omega
      have := twS_r (j := 0) hs hd (Nat.zero_le _)
      rw [Nat.add_zero] at this
      rw [this, eR]
  have dl : ∀ i, i ≤ R → (twD dr).getD i [] = List.zipWith addT (dr.getD i []) (dr.getD i []) := fun i hi => by
    by_cases e : i < R
    · exact twD_l hd e
    · obtain rfl : i = R := by omega
      have := twD_r (j := 0) hd (Nat.zero_le _)
      rw [Nat.add_zero] at this
      rw [this, dz]
  have two : ∀ {xs ys zs us : List (Int × Int)}, xs.length = zs.length → List.zipWith addT xs zs ++ List.zipWith addT ys us = List.zipWith addT (xs ++ ys) (zs ++ us) := fun e => (List.zipWith_append e).symm
  have lowA : ∀ {xs ys : List (Int × Int)}, (∀ x ∈ xs, Low x) → (∀ x ∈ ys, Low x) → ∀ x ∈ xs ++ ys, Low x := fun h1 h2 x hx => (List.mem_append.mp hx).elim (h1 x) (h2 x)
  have v11 : val (1, 1) = val (1, 1) + val (0, 1) := by rw [val_int, val_int, Rat.intCast_zero]; grind
  have v01 : val (0, 1) = val (0, 1) + val (0, 1) := by rw [val_int, Rat.intCast_zero]; grind
  have szL : ∀ xs : List (Int × Int), ∀ i, i < xs.length → Low (xs.getD i (0, 1)) → val ((List.zipWith addT xs xs).getD i (0, 1)) = val (xs.getD i (0, 1)) + val (xs.getD i (0, 1)) := fun xs i hi l => by
    have e := (getD_mem (0, 1) hi).1
    rw [List.getD_eq_getElem?_getD, List.getElem?_zipWith, e]
    exact val_add l.ne l.ne
  have zL : ∀ xs ys : List (Int × Int), ∀ i, i < xs.length → i < ys.length → Low (xs.getD i (0, 1)) → Low (ys.getD i (0, 1)) → val ((List.zipWith addT xs ys).getD i (0, 1)) = val (xs.getD i (0, 1)) + val (ys.getD i (0, 1)) := fun xs ys i hi hj l k => by
    have e := (getD_mem (0, 1) hi).1
    have e2 := (getD_mem (0, 1) hj).1
    rw [List.getD_eq_getElem?_getD, List.getElem?_zipWith, e, e2]
    exact val_add l.ne k.ne
  refine ⟨by rw [List.length_append]; omega, by rw [List.length_append]; omega, fun k hk => (List.mem_append.mp hk).elim (h.rl k) (h.rl k), clo_twice h.l1 h.cl, by rw [List.length_append, hR]; exact twS_len hs hd, by rw [List.length_append, hR]; exact twD_len hd, ?_, ?_, ?_⟩
  · intro s hs'
    obtain ⟨i, hi, e⟩ := List.mem_iff_getElem.mp hs'
    rw [twS_len hs hd] at hi
    have e2 : (twS st dr).getD i [] = s := by rw [List.getD_eq_getElem?_getD, List.getElem?_eq_getElem (by rw [twS_len hs hd]; exact hi), e]; rfl
    rw [← e2]
    by_cases h1 : i ≤ R
    · rw [sl i h1]; exact s_ i h1
    · obtain ⟨j, rfl⟩ : ∃ j, i = R + j := ⟨i - R, by omega⟩
      rw [twS_r hs hd (by omega)]
      have a := s_ j (by omega)
      have b := d_ j (by omega)
      refine ⟨by rw [List.length_zipWith]; omega, fun z hz => ?_⟩
      rw [← List.map_uncurry_zip_eq_zipWith] at hz
      obtain ⟨p, hp, rfl⟩ := List.mem_map.mp hz
      exact low_add (a.2 _ (List.of_mem_zip hp).1).ne (b.2 _ (List.of_mem_zip hp).2).ne
  · intro s hs'
    obtain ⟨i, hi, e⟩ := List.mem_iff_getElem.mp hs'
    rw [twD_len hd] at hi
    have e2 : (twD dr).getD i [] = s := by rw [List.getD_eq_getElem?_getD, List.getElem?_eq_getElem (by rw [twD_len hd]; exact hi), e]; rfl
    rw [← e2]
    have fin : ∀ j, j ≤ R → (List.zipWith addT (dr.getD j []) (dr.getD j [])).length = g.nm.length ∧ ∀ x ∈ List.zipWith addT (dr.getD j []) (dr.getD j []), Low x := fun j hj => by
      have b := d_ j hj
      refine ⟨by rw [List.length_zipWith]; omega, fun z hz => ?_⟩
      rw [← List.map_uncurry_zip_eq_zipWith] at hz
      obtain ⟨p, hp, rfl⟩ := List.mem_map.mp hz
      exact low_add (b.2 _ (List.of_mem_zip hp).1).ne (b.2 _ (List.of_mem_zip hp).2).ne
    by_cases h1 : i ≤ R
    · rw [dl i h1]; exact fin i h1
    · obtain ⟨j, rfl⟩ : ∃ j, i = R + j := ⟨i - R, by omega⟩
      rw [twD_r hd (by omega)]; exact fin j (by omega)
  · refine ⟨fun i hi => ?_, ?_, fun i hi => ?_⟩
    · rw [List.length_append, hR] at hi
      by_cases h1 : i < R
      · rw [sl i (by omega), sl (i + 1) (by omega), dl i (by omega), dl (i + 1) (by omega), gd_app_l (by omega)]
        obtain ⟨w1, w2⟩ := ws i h1
        refine ⟨w1, fun w hw => ?_⟩
        rw [two rfl]
        have l := lowA (d_ i (by omega)).2 (d_ (i + 1) (by omega)).2
        exact wan_add (w2 w hw) (w2 w hw) rfl l l v01
      · obtain ⟨j, rfl⟩ : ∃ j, i = R + j := ⟨i - R, by omega⟩
        rw [twS_r hs hd (by omega), show R + j + 1 = R + (j + 1) by omega, twS_r hs hd (by omega), twD_r hd (by omega), twD_r hd (by omega), gd_app_r (j := j) (by omega)]
        obtain ⟨w1, w2⟩ := ws j (by omega)
        have l := lowA (d_ j (by omega)).2 (d_ (j + 1) (by omega)).2
        have k := lowA (s_ j (by omega)).2 (s_ (j + 1) (by omega)).2
        have el : (st.getD j []).length = (dr.getD j []).length := by rw [(s_ j (by omega)).1, (d_ j (by omega)).1]
        refine ⟨fun w hw => ?_, fun w hw => ?_⟩
        · rw [two el]
          exact wan_add (w1 w hw) (w2 w hw) (by rw [List.length_append, List.length_append, el, (s_ (j + 1) (by omega)).1, (d_ (j + 1) (by omega)).1]) k l v11
        · rw [two rfl]
          exact wan_add (w2 w hw) (w2 w hw) rfl l l v01
    · rw [List.length_append, hR, dl 0 (by omega), twD_r hd (Nat.le_refl _), dz]
    · rw [List.length_append, hR, twS_r hs hd (Nat.le_refl _), sl 0 (by omega), dl 0 (by omega), ← dz]
      have a := s_ R (Nat.le_refl _)
      have b := d_ 0 (by omega)
      have hn : ∀ {xs : List (Int × Int)}, xs.length = g.nm.length ∧ (∀ x ∈ xs, Low x) → Low (xs.getD i (0, 1)) := fun q => q.2 _ (getD_mem (0, 1) (by omega)).2
      rw [zL _ _ i (by omega) (by omega) (hn a) (hn b), szL _ i (by omega) (hn b), sz i hi]
      grind
theorem ok_L_twice (T : Tx P K mg) : FnG P w K mg base 4 T.f_L_twice T.d_L_twice ["_law_lap"] (spD K sp_L_twice) := by
  have G_L_all := ok_L_all (P := P) (w := w) (base := base) T
  exact fnG_of (k := 3) (t := t_L_twice) T.F_L_twice sc_L_twice len_L_twice
    (fun cdv A outer s H hr => pds_cons (pds_asg (vs := [1, 2, 3]) (pd_var 0) (pg_tup rfl (pgs_cons (pg_name (i := 1) sc_L_twice.nd rfl (.inl rfl)) (pgs_cons (pg_name (i := 2) sc_L_twice.nd rfl (.inl rfl)) (pgs_cons (pg_name (i := 3) sc_L_twice.nd rfl (.inl rfl)) (pgs_nil))))) (tg_tup (tgs_cons (tg_name (i := 1) (by decide)) (tgs_cons (tg_name (i := 2) (by decide)) (tgs_cons (tg_name (i := 3) (by decide)) (tgs_nil) (mon_name (i := 3))) (mon_name (i := 2))) (mon_name (i := 1))))) (pds_cons (pds_setLc (i := 4) (own := [("_law_state", 6), ("_law_drift", 7)]) rfl sc_L_twice.nd rfl rfl (sw_true rfl rfl rfl (by decide +kernel)) (pdi_zip rfl T.n_zip (pda_cons (pd_var 2) (pda_cons (pd_var 3) (pda_nil)))) (blkOk_by (own := [("_law_state", 6), ("_law_drift", 7)]) (by kernel_rfl)) (fun _ _ _ _ _ => pg_tup rfl (pgs_cons (pg_name (i := 6) sc_L_twice.nd rfl (by first | exact .inl rfl | exact .inr rfl)) (pgs_cons (pg_name (i := 7) sc_L_twice.nd rfl (by first | exact .inl rfl | exact .inr rfl)) (pgs_nil)))) (tg_tup (tgs_cons (tg_name (i := 6) (by decide)) (tgs_cons (tg_name (i := 7) (by decide)) (tgs_nil) (mon_name (i := 7))) (mon_name (i := 6)))) (mon_tup (mon_cons (mon_name (i := 6)) (mon_cons (mon_name (i := 7)) (mon_nil)))) (fun _ _ _ _ _ => pdts_nil) (fun _ _ _ _ _ => pd_call G_L_all (hr.mono (by decide)) rfl T.g_L_all T.F_L_all.kp T.b_L_all_2 (pda_cons (pd_var 6) (pda_cons (pd_var 7) (pda_nil))))) (pds_cons (pds_setLc (i := 5) (own := [("_law_drift", 7)]) rfl sc_L_twice.nd rfl rfl (sw_true rfl rfl rfl (by decide +kernel)) (pdi_list (pd_var 3)) (blkOk_by (own := [("_law_drift", 7)]) (by kernel_rfl)) (fun _ _ _ _ _ => pg_name (i := 7) sc_L_twice.nd rfl (by first | exact .inl rfl | exact .inr rfl)) (tg_name (i := 7) (by decide)) (mon_name (i := 7)) (fun _ _ _ _ _ => pdts_nil) (fun _ _ _ _ _ => pd_call G_L_all (hr.mono (by decide)) rfl T.g_L_all T.F_L_all.kp T.b_L_all_2 (pda_cons (pd_var 7) (pda_cons (pd_var 7) (pda_nil))))) (pds_one (pds_ret (pd_tup (pda_cons (pd_op op_addD opd_add (pd_var 1) (pd_var 1)) (pda_cons (pd_op op_addD opd_add (pd_slice (pd_var 2) (pdo_none) (pdo_some (pd_neg (pd_int)))) (pd_var 4)) (pda_cons (pd_op op_addD opd_add (pd_slice (pd_var 5) (pdo_none) (pdo_some (pd_neg (pd_int)))) (pd_var 5)) (pda_nil))))))))))
    sem_L_twice
/-! L_law -/
theorem pg_up {B B' : Nat} {g : Pg} (h : PgOk B g) (hb : B ≤ B') : PgOk B' g := ⟨h.nm, h.pm, h.rl, fun r hr => ⟨(h.ro r hr).s0, (h.ro r hr).s1, (h.ro r hr).t0, (h.ro r hr).t1, (h.ro r hr).wl, fun w hw => ⟨fun x hx => (((h.ro r hr).wo w hw).bd x hx).mono hb, ((h.ro r hr).wo w hw).ln⟩⟩⟩
def Good (x : D) : Prop := (∃ k, k ≤ 20 ∧ Any true 101 21 k x) ∧ wD x ≤ 2000000
theorem Good.anyx {x : D} (h : Good x) : AnyX 110 x := by
  obtain ⟨⟨k, _, a⟩, _⟩ := h
  exact ⟨k, a.mono id (by decide) (by decide) (Nat.le_refl _)⟩
theorem Good.shw {g : Pg} {x : D} (ok : PgOk 500 g) (h : Good x) : Shw (.lst [pgD g, x]) := by
  obtain ⟨⟨k, hk, a⟩, w⟩ := h
  have g1 : Sd (pgD g) 2000000 21 := (gd_pg ok).sd.mono (by decide) (by decide)
  have g2 : Sd x 2000000 21 := (a.sd (by decide)).mono w (by omega)
  exact (sd_lst (forall2 (p := fun d => Sd d 2000000 21) g1 g2)).shw (by simp)
theorem any_frsD {N : Nat} {s : List (Int × Int)} (hN : N ≤ 100) (hl : s.length ≤ 3) (h : ∀ x ∈ s, FB N N x) : Any false 100 20 2 (frsD s) := .lst (by rw [List.length_map]; omega) fun x hx => by
  obtain ⟨s, hs, rfl⟩ := List.mem_map.mp hx
  refine .tup (by simp) fun x hx => ?_
  simp only [List.mem_cons, List.not_mem_nil, or_false] at hx
  rcases hx with rfl | rfl
  · exact .int ((h s hs).top.mono hN)
  · exact .int ((h s hs).bot.mono hN)
theorem wD_frs : ∀ s : List (Int × Int), wDs (s.map fr) = 4016 * s.length
  | [] => rfl
  | x :: r => by
    rw [List.map_cons, List.length_cons]
    show (2000 + 2 + (2000 + 2 + 0)) + 10 + 2 + wDs (r.map fr) = _
    rw [wD_frs r]; omega
theorem wD_frsD : ∀ st : List (List (Int × Int)), (∀ s ∈ st, s.length ≤ 3) → wDs (st.map frsD) ≤ 12060 * st.length
  | [], _ => Nat.zero_le _
  | x :: r, h => by
    rw [List.map_cons, List.length_cons]
    show wDs (x.map fr) + 10 + 2 + wDs (r.map frsD) ≤ _
    have := wD_frsD r fun s hs => h s (List.mem_cons_of_mem _ hs)
    have := h x List.mem_cons_self
    rw [wD_frs x]; omega
theorem wD_nats : ∀ is : List Nat, wDs (natL is) = 2002 * is.length
  | [] => rfl
  | x :: r => by
    show 2000 + 2 + wDs (natL r) = 2002 * (r.length + 1)
    rw [wD_nats r]; omega
/-- three lists as they stand in a round -/
structure Tri (rows : List Nat) (st dr : List (List (Int × Int))) : Prop where
  rl : rows.length ≤ 20
  rb : ∀ k ∈ rows, k ≤ 100
  sl : st.length ≤ 20
  dl : dr.length ≤ 20
  so : ∀ s ∈ st, s.length ≤ 3 ∧ ∀ x ∈ s, FB 100 100 x
  do_ : ∀ s ∈ dr, s.length ≤ 3 ∧ ∀ x ∈ s, FB 100 100 x
theorem any_natL {rows : List Nat} (h : rows.length ≤ 20) (hb : ∀ k ∈ rows, k ≤ 100) : Any false 100 20 1 (.lst (natL rows)) := .lst (by rw [natL_len]; exact h) fun x hx => by
  obtain ⟨k, hk, rfl⟩ := List.mem_map.mp hx
  exact .int (bd1 (by have := hb k hk; omega) (by decide))
theorem any_lists {st : List (List (Int × Int))} (h : st.length ≤ 20) (hs : ∀ s ∈ st, s.length ≤ 3 ∧ ∀ x ∈ s, FB 100 100 x) : Any false 100 20 3 (.lst (st.map frsD)) := .lst (by rw [List.length_map]; exact h) fun x hx => by
  obtain ⟨s, h, rfl⟩ := List.mem_map.mp hx
  exact any_frsD (Nat.le_refl _) (hs s h).1 (hs s h).2
theorem Tri.any {rows : List Nat} {st dr : List (List (Int × Int))} (h : Tri rows st dr) : Any false 100 20 4 (lapL rows st dr) ∧ wD (lapL rows st dr) ≤ 530000 := by
  refine ⟨.tup (by show 3 ≤ 20; decide) fun x hx => ?_, ?_⟩
  · simp only [List.mem_cons, List.not_mem_nil, or_false] at hx
    rcases hx with rfl | rfl | rfl
    · exact (any_natL h.rl h.rb).up (by decide)
    · exact any_lists h.sl h.so
    · exact any_lists h.dl h.do_
  · have h1 := wD_frsD st fun s hs => (h.so s hs).1
    have h2 := wD_frsD dr fun s hs => (h.do_ s hs).1
    have h3 := wD_nats rows
    have := h.rl
    have := h.sl
    have := h.dl
    show wDs (natL rows) + 10 + 2 + (wDs (st.map frsD) + 10 + 2 + (wDs (dr.map frsD) + 10 + 2 + 0)) + 10 ≤ _
    omega
theorem Tri.good {rows : List Nat} {st dr : List (List (Int × Int))} (h : Tri rows st dr) : Good (lapL rows st dr) :=
  ⟨⟨4, by decide, h.any.1.mono (fun z => by cases z) (by decide) (by decide) (Nat.le_refl _)⟩, Nat.le_trans h.any.2 (by decide)⟩
def sp_L_law : FS := fun ds ms P => match ds with
  | [.fro xs] => ∃ ns : List Int, xs = ns.map D.int ∧ ∀ ms', P (.bl true) ms'
  | _ => False
theorem len_L_law : ∀ ds ms Q, sp_L_law ds ms Q → ds.length = 1 := fun ds ms Q h => by
  unfold sp_L_law at h
  split at h <;> first | rfl | exact h.elim
def t_L_law_c1 : DTS := dSeq (dAsg (dLst (aCons (dVar 4) (aCons (dCall 1 0 [0] sp_L_twice (aCons (dVar 4) (aNil)) (aNil)) (aCons (dCall 1 0 [0] sp_L_twice (aCons (dCall 1 0 [0] sp_L_twice (aCons (dVar 4) (aNil)) (aNil)) (aNil)) (aNil)) (aCons (dTup (aCons (dVar 5) (aCons (dVar 6) (aCons (dVar 6) (aNil))))) (aNil)))))) (sName 8)) (dSeq (dAsg (dOp fAdd (dVar 8) (dLst (aCons (dTup (aCons (dVar 5) (aCons (dVar 7) (aCons (dVar 7) (aNil))))) (aCons (dTup (aCons (dOp fAdd (dVar 5) (dVar 5)) (aCons (dVar 6) (aCons (dVar 7) (aNil))))) (aNil))))) (sName 8)) (dSeq (dAsg (dOp fAdd (dVar 8) (dLst (aCons (dTup (aCons (dVar 5) (aCons (dRevL (dVar 6)) (aCons (dVar 7) (aNil))))) (aCons (dTup (aCons (dVar 5) (aCons (dVar 6) (aCons (dOp fMul (dLst (aCons (dCB cList (aCons (dOp fIx (dVar 7) (dC (.int 0))) (aNil))) (aNil))) (dCB cLen (aCons (dVar 7) (aNil)))) (aNil))))) (aCons (dC .non) (aCons (dTup (aNil)) (aCons (dVar 5) (aNil)))))))) (sName 8)) (dFor (iSeq (dOp fAdd (dVar 8) (dLc (iRange1 (aCons (dC (.int 7)) (aNil))) (sName 10) (dYes) (dCall 2 0 [0, 1] sp_L_put (aCons (dVar 2) (aCons (dVar 4) (aNil))) (aNil)) [10]))) (sName 9) (dIfS (dNot (dTest (dCall 2 0 [0, 1] sp_L_right (aCons (dVar 3) (aCons (dVar 9) (aNil))) (aNil)))) (dRet (dC (.bl false))) (dNext)))))
def t_L_law : DTS := dSeq (dFor (iRange1 (aCons (dCB cMax2 (aCons (dC (.int 1)) (aCons (dCB cMin2 (aCons (dCB cLen (aCons (dVar 0) (aNil))) (aCons (dC (.int 6)) (aNil)))) (aNil)))) (aNil))) (sName 1) (dSeq (dAsg (dCall 2 0 [0, 1] sp_L_pool (aCons (dVar 0) (aCons (dVar 1) (aNil))) (aNil)) (sName 2)) (dSeq (dAsg (dCall 4 0 [0, 1, 2, 3] sp_L_ringed (aCons (dVar 2) (aCons (dC (.int 2)) (aCons (dC (.int 3)) (aCons (dC (.int 4)) (aNil))))) (aNil)) (sLst 2 (sCons (sName 3) (sCons (sName 4) (sNil))))) (dSeq (dIfS (dOr (dTest (dOp fNotIs (dCall 2 0 [0, 1] sp_p_lets_round (aCons (dVar 3) (aCons (dVar 4) (aNil))) (aNil)) (dC (.bl true)))) (dTest (dOp fNotIs (dCall 2 0 [0, 1] sp_p_lets_round (aCons (dVar 3) (aCons (dCall 1 0 [0] sp_L_twice (aCons (dVar 4) (aNil)) (aNil)) (aNil))) (aNil)) (dC (.bl true))))) (dRet (dC (.bl false))) (dNext)) (dSeq (dAsg (dVar 4) (sTup 3 (sCons (sName 5) (sCons (sName 6) (sCons (sName 7) (sNil)))))) (t_L_law_c1)))))) (dRet (dC (.bl true)))
theorem nums_ring {g : Pg} {N M : Nat} {st : List (List (Int × Int))} (hl : st.length = g.rs.length + 1) (h : ∀ s ∈ st, Frs g.nm.length N M s) : Nums g.nm.length (List.range g.rs.length).length N M st :=
  ⟨by rw [List.length_range]; exact hl, fun s hs => ⟨(h s hs).ln, (h s hs).ok⟩⟩
theorem Nums.mono {n k N M N' M' : Nat} {st : List (List (Int × Int))} (h : Nums n k N M st) (h1 : N ≤ N') (h2 : M ≤ M') : Nums n k N' M' st := ⟨h.ln, fun s hs => ⟨(h.ok s hs).1, fun x hx => ⟨((h.ok s hs).2 x hx).1, ((h.ok s hs).2 x hx).2.mono h1 h2⟩⟩⟩
theorem tri_of {n k j : Nat} {N M N' M' : Nat} {rows : List Nat} {st dr : List (List (Int × Int))} (hn : n ≤ 3) (hk : k ≤ 19) (hj : j ≤ 19) (hr : rows.length ≤ 20) (rb : ∀ k ∈ rows, k ≤ 100) (h1 : Nums n k N M st) (h2 : Nums n j N' M' dr) (b1 : N ≤ 100) (b2 : M ≤ 100) (b3 : N' ≤ 100) (b4 : M' ≤ 100) : Tri rows st dr :=
  ⟨hr, rb, by have := h1.ln; omega, by have := h2.ln; omega, fun s hs => ⟨by have := (h1.ok s hs).1; omega, fun x hx => ((h1.ok s hs).2 x hx).2.mono b1 b2⟩, fun s hs => ⟨by have := (h2.ok s hs).1; omega, fun x hx => ((h2.ok s hs).2 x hx).2.mono b3 b4⟩⟩
/-- a drawn round is one -/
theorem ring_lap {g : Pg} {st dr : List (List (Int × Int))} (ok : RingOk g st dr) : LapOk g (List.range g.rs.length) st dr := by
  have rl := ok.pg.rl
  have gd : ∀ i, i < g.rs.length → (List.range g.rs.length).getD i 0 = i := fun i hi => by
    rw [List.getD_eq_getElem?_getD, List.getElem?_range hi]; rfl
  refine ⟨by rw [List.length_range]; exact ok.r1, by rw [List.length_range]; omega, fun k hk => List.mem_range.mp hk, fun i hi => ?_, by rw [List.length_range]; exact ok.sl, by rw [List.length_range]; exact ok.dl, fun s hs => ⟨(ok.sf s hs).ln, fun x hx => ((ok.sf s hs).ok x hx).1⟩, fun s hs => ⟨(ok.df s hs).ln, fun x hx => ((ok.df s hs).ok x hx).1⟩, ⟨fun i hi => ?_, ?_, ?_⟩⟩
  · rw [List.length_range] at hi ⊢
    rw [gd i hi, gd _ (Nat.mod_lt _ (by omega))]
    exact ok.ring i hi
  · rw [List.length_range] at hi
    rw [gd i hi]
    exact ⟨fun w hw => (ok.wa i hi w hw).1, fun w hw => (ok.wa i hi w hw).2⟩
  · rw [List.length_range]; exact ok.dz.symm
  · rw [List.length_range]
    have s_ : ∀ i, i ≤ g.rs.length → (st.getD i []).length = g.nm.length ∧ ∀ x ∈ st.getD i [], Low x := fun i hi => by
      have := ok.sf _ (getD_mem [] (by have := ok.sl; omega : i < st.length)).2
      exact ⟨this.ln, fun x hx => (this.ok x hx).1⟩
    have d_ : ∀ i, i ≤ g.rs.length → (dr.getD i []).length = g.nm.length ∧ ∀ x ∈ dr.getD i [], Low x := fun i hi => by
      have := ok.df _ (getD_mem [] (by have := ok.dl; omega : i < dr.length)).2
      exact ⟨this.ln, fun x hx => (this.ok x hx).1⟩
    exact (add_iff (s_ 0 (by omega)).1 (s_ _ (Nat.le_refl _)).1 (d_ 0 (by omega)).1 (s_ 0 (by omega)).2 (s_ _ (Nat.le_refl _)).2 (d_ 0 (by omega)).2).mp ok.sz.symm
theorem repG_ok {n : Nat} {d : D} (h : n ≤ 1000) : -2 ^ 63 ≤ (n : Int) ∧ (n : Int) < 2 ^ 63 ∧ [d].length * (n : Int).toNat ≤ sizeLine := by
  rw [Int.toNat_natCast, List.length_singleton, Nat.one_mul]
  exact ⟨by omega, by omega, Nat.le_trans h (by decide)⟩
theorem rep_frs (s : List (Int × Int)) : ∀ n : Nat, (List.replicate n [frsD s]).flatten = (List.replicate n s).map frsD
  | 0 => rfl
  | n + 1 => by rw [List.replicate_succ, List.replicate_succ, List.flatten_cons, rep_frs s n]; rfl
theorem law_c1 {E : EN} {N : DS → MS → Prop} {p : Addr} {m : MS} {g : Pg} {st dr : List (List (Int × Int))} {x0 x1 x8 x9 x10 : Option D} (ok : RingOk g st dr) (n2 : g.nm.length ≤ 2) (r4 : g.rs.length ≤ 4) (pm : PoolAt m p)
    (hN : ∀ x4 x5 x6 x7 x8 x9 x10 m', N [x0, x1, some (.opq (.ref p)), some (pgD g), x4, x5, x6, x7, x8, x9, x10] m') :
    t_L_law_c1 (EN.lp E N) [x0, x1, some (.opq (.ref p)), some (pgD g), some (lapL (List.range g.rs.length) st dr), some (.lst (natL (List.range g.rs.length))), some (.lst (st.map frsD)), some (.lst (dr.map frsD)), x8, x9, x10] m := by
  have ns := nums_ring ok.sl ok.sf
  have nd := nums_ring ok.dl ok.df
  have rl : (List.range g.rs.length).length = g.rs.length := List.length_range
  have ok5 := pg_up ok.pg (show 200 ≤ 500 by decide)
  have n2s := nums_twS ns nd (k := 11) (by decide) (by decide)
  have n2d := nums_twD nd (k := 7) (by decide)
  have ll : (List.range g.rs.length ++ List.range g.rs.length).length = (List.range g.rs.length).length + (List.range g.rs.length).length := List.length_append
  have a0 : atI (dr.map frsD) 0 = some (.lst ((dr.getD 0 []).map fr)) := atI_nat (j := 0) (by rw [List.getElem?_map, (getD_mem [] (by have := nd.ln; omega : 0 < dr.length)).1]; rfl)
  have tw1 : ∀ {P : D → MS → Prop} {m : MS}, P (lapL (List.range g.rs.length ++ List.range g.rs.length) (twS st dr) (twD dr)) m → sp_L_twice [lapL (List.range g.rs.length) st dr] m P := fun q =>
    ⟨_, st, dr, g.nm.length, rfl, by omega, by omega, ns.mono (by decide) (by decide), nd.mono (by decide) (by decide), q⟩
  unfold t_L_law_c1
  walk_at "st"
  refine tw1 ?_
  walk_at "st"
  refine tw1 ?_
  walk_at "st"
  refine ⟨_, _, _, g.nm.length, rfl, by omega, by omega, by rw [ll]; exact n2s.mono (by decide) (by decide), by rw [ll]; exact n2d.mono (by decide) (by decide), ?_⟩
  walk_at "st"
  refine ⟨size_ok (by rw [natL_len]; omega), ?_⟩
  walk_at "st"
  try (refine ⟨size_ok (by simp), ?_⟩; walk_at "st")
  refine w_ix_l a0 ?_
  walk_at "st"
  refine ⟨repG_ok (by rw [List.length_map]; have := nd.ln; omega), ?_⟩
  rw [Int.toNat_natCast, List.length_map, show (D.lst ((dr.getD 0 []).map fr)) = frsD (dr.getD 0 []) from rfl, rep_frs, ← List.map_reverse]
  have rows_ : natL (List.range g.rs.length) ++ natL (List.range g.rs.length) = natL (List.range g.rs.length ++ List.range g.rs.length) := (List.map_append ..).symm
  rw [rows_]
  walk_at "st"
  have rb : ∀ k ∈ List.range g.rs.length, k ≤ 100 := fun k hk => by have := List.mem_range.mp hk; omega
  have rb2 : ∀ k ∈ List.range g.rs.length ++ List.range g.rs.length, k ≤ 100 := fun k hk => (List.mem_append.mp hk).elim (rb k) (rb k)
  have rb4 : ∀ k ∈ List.range g.rs.length ++ List.range g.rs.length ++ (List.range g.rs.length ++ List.range g.rs.length), k ≤ 100 := fun k hk => (List.mem_append.mp hk).elim (rb2 k) (rb2 k)
  have n4s := nums_twS n2s n2d (k := 18) (by decide) (by decide)
  have n4d := nums_twD n2d (k := 14) (by decide)
  have nr : Nums g.nm.length (List.range g.rs.length).length 8 6 st.reverse := ⟨by rw [List.length_reverse]; exact ns.ln, fun s hs => ns.ok s (List.mem_reverse.mp hs)⟩
  have np : Nums g.nm.length (List.range g.rs.length).length 4 3 (List.replicate dr.length (dr.getD 0 [])) := ⟨by rw [List.length_replicate]; exact nd.ln, fun s hs => by
    rw [List.eq_of_mem_replicate hs]
    exact nd.ok _ (getD_mem [] (by have := nd.ln; omega)).2⟩
  have T : ∀ {rows : List Nat} {st dr : List (List (Int × Int))} {k j A B C D : Nat}, rows.length ≤ 20 → (∀ k ∈ rows, k ≤ 100) → k ≤ 19 → j ≤ 19 → Nums g.nm.length k A B st → Nums g.nm.length j C D dr → A ≤ 100 → B ≤ 100 → C ≤ 100 → D ≤ 100 → Good (lapL rows st dr) := fun h1 h2 h3 h4 h5 h6 h7 h8 h9 h10 => (tri_of (by omega) h3 h4 h1 h2 h5 h6 h7 h8 h9 h10).good
  have t1 := tri_of (by omega) (by omega) (by omega) (by omega) rb ns nd (by decide) (by decide) (by decide) (by decide)
  have good : ∀ x ∈ [lapL (List.range g.rs.length) st dr, lapL (List.range g.rs.length ++ List.range g.rs.length) (twS st dr) (twD dr), lapL (List.range g.rs.length ++ List.range g.rs.length ++ (List.range g.rs.length ++ List.range g.rs.length)) (twS (twS st dr) (twD dr)) (twD (twD dr)),
      lapL (List.range g.rs.length) st st] ++ [lapL (List.range g.rs.length) dr dr, lapL (List.range g.rs.length ++ List.range g.rs.length) st dr] ++ [lapL (List.range g.rs.length) st.reverse dr, lapL (List.range g.rs.length) st (List.replicate dr.length (dr.getD 0 [])), .non, .tup [], .lst (natL (List.range g.rs.length))], Good x := by
    intro x hx
    simp only [List.cons_append, List.nil_append, List.mem_cons, List.not_mem_nil, or_false] at hx
    rcases hx with rfl | rfl | rfl | rfl | rfl | rfl | rfl | rfl | rfl | rfl | rfl
    · exact t1.good
    · exact T (by omega) rb2 (by omega) (by omega) n2s n2d (by decide) (by decide) (by decide) (by decide)
    · exact T (by rw [List.length_append]; omega) rb4 (by omega) (by omega) n4s n4d (by decide) (by decide) (by decide) (by decide)
    · exact T (by omega) rb (by omega) (by omega) ns ns (by decide) (by decide) (by decide) (by decide)
    · exact T (by omega) rb (by omega) (by omega) nd nd (by decide) (by decide) (by decide) (by decide)
    · exact T (by omega) rb2 (by omega) (by omega) ns nd (by decide) (by decide) (by decide) (by decide)
    · exact T (by omega) rb (by omega) (by omega) nr nd (by decide) (by decide) (by decide) (by decide)
    · exact T (by omega) rb (by omega) (by omega) ns np (by decide) (by decide) (by decide) (by decide)
    · exact ⟨⟨0, by decide, .non⟩, by show 10 ≤ _; decide⟩
    · exact ⟨⟨1, by decide, .tup (Nat.zero_le _) (fun x hx => by cases hx)⟩, by show 0 + 10 ≤ _; decide⟩
    · refine ⟨⟨1, by decide, (any_natL (by omega) rb).mono (fun z => by cases z) (by decide) (by decide) (Nat.le_refl _)⟩, ?_⟩
      show wDs (natL (List.range g.rs.length)) + 10 ≤ _
      rw [wD_nats]; omega
  simp only [wipeD, List.set]
  refine comp_pool (p := p) (Good := Good) _ [] m _ pm (by rw [rng_len, List.length_nil]; decide) (fun x hx m hm P0 q0 => ?_) ?_
  · walk_at "st"
    exact ⟨hm, by decide, 20, by decide, by decide, t1.any.1.up (by decide), fun d' po m2 p2 c2 => q0 _ _ ⟨⟨7, by decide, po.an⟩, Nat.le_trans po.wd (by have := t1.any.2; omega)⟩ p2 c2⟩
  intro ys m2 hl2 hg2 p2 c2
  rw [List.nil_append]
  rw [rng_len] at hl2
  walk_at "st"
  refine ⟨size_ok (by rw [hl2]; simp), ?_⟩
  walk_at "st"
  refine loop_inv (fun ds m' => ∃ x4 x5 x6 x7 x8 x9 x10, ds = [x0, x1, some (.opq (.ref p)), some (pgD g), x4, x5, x6, x7, x8, x9, x10]) _ _ _ ⟨_, _, _, _, _, _, _, rfl⟩ ?_ ?_
  · rintro x hx ds m' ⟨x4, x5, x6, x7, x8, x9, x10, rfl⟩ G hG
    have gx : Good x := by
      rcases List.mem_append.mp hx with hx | hx
      · exact good x hx
      · exact hg2 x hx
    walk_at "st"
    refine ⟨g, rfl, ok5, gx.anyx, gx.shw ok5, ?_⟩
    walk_at "st"
    exact hG _ _ ⟨_, _, _, _, _, _, _, rfl⟩
  · rintro ds m' ⟨x4, x5, x6, x7, x8, x9, x10, rfl⟩
    walk_at "st"
    exact hN _ _ _ _ _ _ _ _
theorem sem_L_law : ∀ ds ms Q, sp_L_law ds ms Q → t_L_law { nx := fun _ m => Q .non m, rt := Q } (startD 11 ds) ms := by
  intro ds ms Q h
  unfold sp_L_law at h
  split at h
  · obtain ⟨ns, rfl, h⟩ := h
    simp only [startD]
    unfold t_L_law
    walk_at "st"
    have hy := cells_le 6 (by decide) (ns.map D.int).length
    generalize (if (if 6 < ((ns.map D.int).length : Int) then 6 else ((ns.map D.int).length : Int)) > 1 then if 6 < ((ns.map D.int).length : Int) then 6 else ((ns.map D.int).length : Int) else 1) = y at hy
    refine w_mRng ⟨by omega, by omega⟩ ?_
    refine loop_inv (fun ds _ => ∃ x1 x2 x3 x4 x5 x6 x7 x8 x9 x10, ds = [some (.fro (ns.map D.int)), x1, x2, x3, x4, x5, x6, x7, x8, x9, x10]) _ _ _ ⟨_, _, _, _, _, _, _, _, _, _, rfl⟩ ?_ ?_
    · rintro x hx ds ms ⟨x1, x2, x3, x4, x5, x6, x7, x8, x9, x10, rfl⟩ N hN
      obtain ⟨i, hi, rfl⟩ := rng_mem hx
      walk_at "st"
      refine ⟨ns, rfl, by omega, by omega, fun p hp a b o => ?_⟩
      have p0 : PoolAt ((p, [.int a, .int b]) :: ms) p := .new o
      generalize ((p, [D.int a, D.int b]) :: ms) = m0 at p0
      walk_at "st"
      refine ⟨p0, by decide, by decide, by decide, by decide, by decide, by decide, fun g st dr ok l1 l2 l3 m1 p1 c1 => ?_⟩
      have rl := ok.pg.rl
      have ok5 := pg_up ok.pg (show 200 ≤ 500 by decide)
      have la := ring_lap ok
      have e : D.tup [.lst (rng 0 g.rs.length), .lst (st.map frsD), .lst (dr.map frsD)] = lapL (List.range g.rs.length) st dr := by unfold lapL natL; rw [rng_natsK]
      rw [e]
      have n2 : g.nm.length ≤ 2 := by omega
      have r4 : g.rs.length ≤ 4 := by omega
      have n1s := nums_ring ok.sl ok.sf
      have n1d := nums_ring ok.dl ok.df
      have rb : ∀ k ∈ List.range g.rs.length, k ≤ 100 := fun k hk => by have := List.mem_range.mp hk; omega
      have t1 := tri_of (by omega) (by rw [List.length_range]; omega) (by rw [List.length_range]; omega) (by rw [List.length_range]; omega) rb n1s n1d (by decide) (by decide) (by decide) (by decide)
      have n2s := nums_twS n1s n1d (k := 11) (by decide) (by decide)
      have n2d := nums_twD n1d (k := 7) (by decide)
      have rb2 : ∀ k ∈ List.range g.rs.length ++ List.range g.rs.length, k ≤ 100 := fun k hk => (List.mem_append.mp hk).elim (rb k) (rb k)
      have t2 := tri_of (by omega) (by rw [List.length_range]; omega) (by rw [List.length_range]; omega) (by rw [List.length_append, List.length_range]; omega) rb2 n2s n2d (by decide) (by decide) (by decide) (by decide)
      walk_at "st"
      refine ⟨g, rfl, ok5, t1.good.anyx, ?_⟩
      rw [tf_yes ⟨_, _, _, rfl, la⟩]
      walk_at "st"
      refine ⟨_, st, dr, g.nm.length, rfl, by omega, by rw [List.length_range]; omega, n1s.mono (by decide) (by decide), n1d.mono (by decide) (by decide), ?_⟩
      walk_at "st"
      refine ⟨g, rfl, ok5, t2.good.anyx, ?_⟩
      rw [tf_yes ⟨_, _, _, rfl, la.twice (by rw [List.length_range]; omega)⟩]
      unfold lapL
      walk_at "st"
      exact law_c1 ok n2 r4 p1 fun x4 x5 x6 x7 x8 x9 x10 m' => hN _ _ ⟨_, _, _, _, _, _, _, _, _, _, rfl⟩
    · rintro ds m ⟨x1, x2, x3, x4, x5, x6, x7, x8, x9, x10, rfl⟩
      walk_at "st"
      exact h m
  · exact h.elim
theorem ok_L_law (T : Tx P K mg) : FnG P w K mg base 11 T.f_L_law T.d_L_law ["_law_script"] (spD K sp_L_law) := by
  have G_L_pool := ok_L_pool (P := P) (w := w) (base := base) T
  have G_L_ringed := ok_L_ringed (P := P) (w := w) (base := base) T
  have G_L_twice := ok_L_twice (P := P) (w := w) (base := base) T
  have G_p_lets_round := ok_p_lets_round (P := P) (w := w) (base := base) T
  have G_L_put := ok_L_put (P := P) (w := w) (base := base) T
  have G_L_right := ok_L_right (P := P) (w := w) (base := base) T
  exact fnG_of (k := 10) (t := t_L_law) T.F_L_law sc_L_law len_L_law
    (fun cdv A outer s H hr => pds_cons (pds_for (vs := [1]) rfl (pdi_range1 rfl T.n_range (pda_cons (pd_callB (call_max2 rfl) cal_max2 rfl T.n_max (by decide +kernel) (pda_cons (pd_int) (pda_cons (pd_callB (call_min2 rfl) cal_min2 rfl T.n_min (by decide +kernel) (pda_cons (pd_callB call_len cal_len rfl T.n_len (by decide +kernel) (pda_cons (pd_var 0) (pda_nil))) (pda_cons (pd_int) (pda_nil)))) (pda_nil)))) (pda_nil))) (pg_name (i := 1) sc_L_law.nd rfl (.inl rfl)) (tg_name (i := 1) (by decide)) (pds_cons (pds_set (i := 2) sc_L_law.nd rfl (.inr rfl) (pd_call G_L_pool (hr.mono (by decide)) rfl T.g_L_pool T.F_L_pool.kp T.b_L_pool_2 (pda_cons (pd_var 0) (pda_cons (pd_var 1) (pda_nil))))) (pds_cons (pds_asg (vs := [3, 4]) (pd_call G_L_ringed (hr.mono (by decide)) rfl T.g_L_ringed T.F_L_ringed.kp T.b_L_ringed_4 (pda_cons (pd_var 2) (pda_cons (pd_int) (pda_cons (pd_int) (pda_cons (pd_int) (pda_nil)))))) (pg_lst rfl (pgs_cons (pg_name (i := 3) sc_L_law.nd rfl (.inl rfl)) (pgs_cons (pg_name (i := 4) sc_L_law.nd rfl (.inr rfl)) (pgs_nil)))) (tg_lst (tgs_cons (tg_name (i := 3) (by decide)) (tgs_cons (tg_name (i := 4) (by decide)) (tgs_nil) (mon_name (i := 4))) (mon_name (i := 3))))) (pds_cons (pds_if (pdt_w (pdw_or (pdt_cmp op_notIsD opd_notIs (pd_call G_p_lets_round (hr.mono (by decide)) rfl T.g_p_lets_round T.F_p_lets_round.kp T.b_p_lets_round_2 (pda_cons (pd_var 3) (pda_cons (pd_var 4) (pda_nil)))) (pd_bl)) (pdw_or1 (pdt_cmp op_notIsD opd_notIs (pd_call G_p_lets_round (hr.mono (by decide)) rfl T.g_p_lets_round T.F_p_lets_round.kp T.b_p_lets_round_2 (pda_cons (pd_var 3) (pda_cons (pd_call G_L_twice (hr.mono (by decide)) rfl T.g_L_twice T.F_L_twice.kp T.b_L_twice_1 (pda_cons (pd_var 4) (pda_nil))) (pda_nil)))) (pd_bl))))) (pds_one (pds_ret (pd_bl))) (pds_nil)) (pds_cons (pds_asg (vs := [5, 6, 7]) (pd_var 4) (pg_tup rfl (pgs_cons (pg_name (i := 5) sc_L_law.nd rfl (.inl rfl)) (pgs_cons (pg_name (i := 6) sc_L_law.nd rfl (.inl rfl)) (pgs_cons (pg_name (i := 7) sc_L_law.nd rfl (.inl rfl)) (pgs_nil))))) (tg_tup (tgs_cons (tg_name (i := 5) (by decide)) (tgs_cons (tg_name (i := 6) (by decide)) (tgs_cons (tg_name (i := 7) (by decide)) (tgs_nil) (mon_name (i := 7))) (mon_name (i := 6))) (mon_name (i := 5))))) (pds_cons (pds_set (i := 8) sc_L_law.nd rfl (.inl rfl) (pd_lst (pda_cons (pd_var 4) (pda_cons (pd_call G_L_twice (hr.mono (by decide)) rfl T.g_L_twice T.F_L_twice.kp T.b_L_twice_1 (pda_cons (pd_var 4) (pda_nil))) (pda_cons (pd_call G_L_twice (hr.mono (by decide)) rfl T.g_L_twice T.F_L_twice.kp T.b_L_twice_1 (pda_cons (pd_call G_L_twice (hr.mono (by decide)) rfl T.g_L_twice T.F_L_twice.kp T.b_L_twice_1 (pda_cons (pd_var 4) (pda_nil))) (pda_nil))) (pda_cons (pd_tup (pda_cons (pd_var 5) (pda_cons (pd_var 6) (pda_cons (pd_var 6) (pda_nil))))) (pda_nil))))))) (pds_cons (pds_set (i := 8) sc_L_law.nd rfl (.inl rfl) (pd_op op_addD opd_add (pd_var 8) (pd_lst (pda_cons (pd_tup (pda_cons (pd_var 5) (pda_cons (pd_var 7) (pda_cons (pd_var 7) (pda_nil))))) (pda_cons (pd_tup (pda_cons (pd_op op_addD opd_add (pd_var 5) (pd_var 5)) (pda_cons (pd_var 6) (pda_cons (pd_var 7) (pda_nil))))) (pda_nil)))))) (pds_cons (pds_set (i := 8) sc_L_law.nd rfl (.inl rfl) (pd_op op_addD opd_add (pd_var 8) (pd_lst (pda_cons (pd_tup (pda_cons (pd_var 5) (pda_cons (pd_revL (pd_var 6)) (pda_cons (pd_var 7) (pda_nil))))) (pda_cons (pd_tup (pda_cons (pd_var 5) (pda_cons (pd_var 6) (pda_cons (pd_op op_mulA opd_mul (pd_lst (pda_cons (pd_callTy call_list_of cal_list rfl T.n_list (by decide +kernel) (pda_cons (pd_ix ix_seq opd_ix (pd_var 7) (pd_int)) (pda_nil))) (pda_nil))) (pd_callB call_len cal_len rfl T.n_len (by decide +kernel) (pda_cons (pd_var 7) (pda_nil)))) (pda_nil))))) (pda_cons (pd_non) (pda_cons (pd_tup (pda_nil)) (pda_cons (pd_var 5) (pda_nil))))))))) (pds_one (pds_for (vs := [9]) rfl (pdi_list (pd_op op_addD opd_add (pd_var 8) (pd_lc (own := [("_law_turn", 10)]) rfl sc_L_law.nd (pdi_range1 rfl T.n_range (pda_cons (pd_int) (pda_nil))) (blkOk_by (own := [("_law_turn", 10)]) (by kernel_rfl)) (fun _ _ _ _ _ => pg_name (i := 10) sc_L_law.nd rfl (by first | exact .inl rfl | exact .inr rfl)) (tg_name (i := 10) (by decide)) (mon_name (i := 10)) (fun _ _ _ _ _ => pdts_nil) (fun _ _ _ _ _ => pd_call G_L_put (hr.mono (by decide)) rfl T.g_L_put T.F_L_put.kp T.b_L_put_2 (pda_cons (pd_var 2) (pda_cons (pd_var 4) (pda_nil))))))) (pg_name (i := 9) sc_L_law.nd rfl (.inl rfl)) (tg_name (i := 9) (by decide)) (pds_one (pds_if (pdt_not (pdt_val (pd_call G_L_right (hr.mono (by decide)) rfl T.g_L_right T.F_L_right.kp T.b_L_right_2 (pda_cons (pd_var 3) (pda_cons (pd_var 9) (pda_nil)))))) (pds_one (pds_ret (pd_bl))) (pds_nil))))))))))))) (pds_one (pds_ret (pd_bl))))
    sem_L_law
end

/-! ### the top's facts put together -/
theorem all_mk {l : PySem.W.OpenLaw} {w : World} {K : PySem.W.Frag} {h : Heap} {mg : Str → Option Value} {fa : Addr} (X : K.In h) (G : h.Ns mainGlobals mg) (hfa : mg "law" = some (.ref fa))
    {f0 : Addr} {od0 an0 : Option Addr} {sl0 : Array (Option Value)} {oc0 kV0 dc0 pm0 cd0 ct0 : Value}
    {f1 : Addr} {od1 an1 : Option Addr} {sl1 : Array (Option Value)} {oc1 kV1 dc1 pm1 cd1 ct1 : Value}
    {f2 : Addr} {od2 an2 : Option Addr} {sl2 : Array (Option Value)} {oc2 kV2 dc2 pm2 cd2 ct2 : Value}
    {f3 : Addr} {od3 an3 : Option Addr} {sl3 : Array (Option Value)} {oc3 kV3 dc3 pm3 cd3 ct3 : Value}
    {f4 : Addr} {od4 an4 : Option Addr} {sl4 : Array (Option Value)} {oc4 kV4 dc4 pm4 cd4 ct4 : Value}
    {f5 : Addr} {od5 an5 : Option Addr} {sl5 : Array (Option Value)} {oc5 kV5 dc5 pm5 cd5 ct5 : Value}
    {f6 : Addr} {od6 an6 : Option Addr} {sl6 : Array (Option Value)} {oc6 kV6 dc6 pm6 cd6 ct6 : Value}
    {f7 : Addr} {od7 an7 : Option Addr} {sl7 : Array (Option Value)} {oc7 kV7 dc7 pm7 cd7 ct7 : Value}
    {f8 : Addr} {od8 an8 : Option Addr} {sl8 : Array (Option Value)} {oc8 kV8 dc8 pm8 cd8 ct8 : Value}
    {f9 : Addr} {od9 an9 : Option Addr} {sl9 : Array (Option Value)} {oc9 kV9 dc9 pm9 cd9 ct9 : Value}
    {f10 : Addr} {od10 an10 : Option Addr} {sl10 : Array (Option Value)} {oc10 kV10 dc10 pm10 cd10 ct10 : Value}
    {f11 : Addr} {od11 an11 : Option Addr} {sl11 : Array (Option Value)} {oc11 kV11 dc11 pm11 cd11 ct11 : Value}
    {f12 : Addr} {od12 an12 : Option Addr} {sl12 : Array (Option Value)} {oc12 kV12 dc12 pm12 cd12 ct12 : Value}
    {f13 : Addr} {od13 an13 : Option Addr} {sl13 : Array (Option Value)} {oc13 kV13 dc13 pm13 cd13 ct13 : Value}
    {f14 : Addr} {od14 an14 : Option Addr} {sl14 : Array (Option Value)} {oc14 kV14 dc14 pm14 cd14 ct14 : Value}
    {f15 : Addr} {od15 an15 : Option Addr} {sl15 : Array (Option Value)} {oc15 kV15 dc15 pm15 cd15 ct15 : Value}
    {f16 : Addr} {od16 an16 : Option Addr} {sl16 : Array (Option Value)} {oc16 kV16 dc16 pm16 cd16 ct16 : Value}
    {f17 : Addr} {od17 an17 : Option Addr} {sl17 : Array (Option Value)} {oc17 kV17 dc17 pm17 cd17 ct17 : Value}
    {f18 : Addr} {od18 an18 : Option Addr} {sl18 : Array (Option Value)} {oc18 kV18 dc18 pm18 cd18 ct18 : Value}
    {f19 : Addr} {od19 an19 : Option Addr} {sl19 : Array (Option Value)} {oc19 kV19 dc19 pm19 cd19 ct19 : Value}
    {f20 : Addr} {od20 an20 : Option Addr} {sl20 : Array (Option Value)} {oc20 kV20 dc20 pm20 cd20 ct20 : Value}
    {f21 : Addr} {od21 an21 : Option Addr} {sl21 : Array (Option Value)} {oc21 kV21 dc21 pm21 cd21 ct21 : Value}
    {f22 : Addr} {od22 an22 : Option Addr} {sl22 : Array (Option Value)} {oc22 kV22 dc22 pm22 cd22 ct22 : Value}
    {f23 : Addr} {od23 an23 : Option Addr} {sl23 : Array (Option Value)} {oc23 kV23 dc23 pm23 cd23 ct23 : Value}
    {f24 : Addr} {od24 an24 : Option Addr} {sl24 : Array (Option Value)} {oc24 kV24 dc24 pm24 cd24 ct24 : Value}
    {f25 : Addr} {od25 an25 : Option Addr} {sl25 : Array (Option Value)} {oc25 kV25 dc25 pm25 cd25 ct25 : Value}
    {f26 : Addr} {od26 an26 : Option Addr} {sl26 : Array (Option Value)} {oc26 kV26 dc26 pm26 cd26 ct26 : Value}
    {f27 : Addr} {od27 an27 : Option Addr} {sl27 : Array (Option Value)} {oc27 kV27 dc27 pm27 cd27 ct27 : Value}
    {f28 : Addr} {od28 an28 : Option Addr} {sl28 : Array (Option Value)} {oc28 kV28 dc28 pm28 cd28 ct28 : Value}
    {f29 : Addr} {od29 an29 : Option Addr} {sl29 : Array (Option Value)} {oc29 kV29 dc29 pm29 cd29 ct29 : Value}
    {f30 : Addr} {od30 an30 : Option Addr} {sl30 : Array (Option Value)} {oc30 kV30 dc30 pm30 cd30 ct30 : Value}
    {f31 : Addr} {od31 an31 : Option Addr} {sl31 : Array (Option Value)} {oc31 kV31 dc31 pm31 cd31 ct31 : Value}
    {f32 : Addr} {od32 an32 : Option Addr} {sl32 : Array (Option Value)} {oc32 kV32 dc32 pm32 cd32 ct32 : Value}
    {f33 : Addr} {od33 an33 : Option Addr} {sl33 : Array (Option Value)} {oc33 kV33 dc33 pm33 cd33 ct33 : Value}
    {f34 : Addr} {od34 an34 : Option Addr} {sl34 : Array (Option Value)} {oc34 kV34 dc34 pm34 cd34 ct34 : Value}
    {f35 : Addr} {od35 an35 : Option Addr} {sl35 : Array (Option Value)} {oc35 kV35 dc35 pm35 cd35 ct35 : Value}
    {f36 : Addr} {od36 an36 : Option Addr} {sl36 : Array (Option Value)} {oc36 kV36 dc36 pm36 cd36 ct36 : Value}
    {f37 : Addr} {od37 an37 : Option Addr} {sl37 : Array (Option Value)} {oc37 kV37 dc37 pm37 cd37 ct37 : Value}
    {f38 : Addr} {od38 an38 : Option Addr} {sl38 : Array (Option Value)} {oc38 kV38 dc38 pm38 cd38 ct38 : Value}
    {f39 : Addr} {od39 an39 : Option Addr} {sl39 : Array (Option Value)} {oc39 kV39 dc39 pm39 cd39 ct39 : Value}
    {f40 : Addr} {od40 an40 : Option Addr} {sl40 : Array (Option Value)} {oc40 kV40 dc40 pm40 cd40 ct40 : Value}
    {f41 : Addr} {od41 an41 : Option Addr} {sl41 : Array (Option Value)} {oc41 kV41 dc41 pm41 cd41 ct41 : Value}
    {f42 : Addr} {od42 an42 : Option Addr} {sl42 : Array (Option Value)} {oc42 kV42 dc42 pm42 cd42 ct42 : Value}
    {f43 : Addr} {od43 an43 : Option Addr} {sl43 : Array (Option Value)} {oc43 kV43 dc43 pm43 cd43 ct43 : Value}
    {f44 : Addr} {od44 an44 : Option Addr} {sl44 : Array (Option Value)} {oc44 kV44 dc44 pm44 cd44 ct44 : Value}
    {f45 : Addr} {od45 an45 : Option Addr} {sl45 : Array (Option Value)} {oc45 kV45 dc45 pm45 cd45 ct45 : Value}
    {f46 : Addr} {od46 an46 : Option Addr} {sl46 : Array (Option Value)} {oc46 kV46 dc46 pm46 cd46 ct46 : Value}
    {f47 : Addr} {od47 an47 : Option Addr} {sl47 : Array (Option Value)} {oc47 kV47 dc47 pm47 cd47 ct47 : Value}
    {f48 : Addr} {od48 an48 : Option Addr} {sl48 : Array (Option Value)} {oc48 kV48 dc48 pm48 cd48 ct48 : Value}
    {f49 : Addr} {od49 an49 : Option Addr} {sl49 : Array (Option Value)} {oc49 kV49 dc49 pm49 cd49 ct49 : Value}
    {f50 : Addr} {od50 an50 : Option Addr} {sl50 : Array (Option Value)} {oc50 kV50 dc50 pm50 cd50 ct50 : Value}
    {f51 : Addr} {od51 an51 : Option Addr} {sl51 : Array (Option Value)} {oc51 kV51 dc51 pm51 cd51 ct51 : Value}
    {tk_JUST : Tok}
    {tk_LEAST : Tok}
    {tk_LETTERS : Tok}
    {tk_LONGEST_NAME : Tok}
    {tk_MOST_IN_RING : Tok}
    {tk_MOST_NAMES : Tok}
    {tk_MOST_NUMBERS : Tok}
    {tk_MOST_PLACES : Tok}
    {tk_MOST_ROWS : Tok}
    {tk_MOST_WISHES : Tok}
    {ad_NOUGHT : Addr} {dd_NOUGHT : Option Addr} {nn_NOUGHT : Nat} {ss_NOUGHT : Array (Option Value)} {tk_NOUGHT_0 tk_NOUGHT_1 : Tok}
    {ad_ONE : Addr} {dd_ONE : Option Addr} {nn_ONE : Nat} {ss_ONE : Array (Option Value)} {tk_ONE_0 tk_ONE_1 : Tok}
    (a0 : PySem.W.nsIn K mainGlobals "is_whole" = some (some (.ref f0)))
    (l0 : K.lookup f0 = some ⟨oc0, od0, .func (PySem.W.fnOf "is_whole" "is_whole" (defArgs s_p_is_whole) (defBody s_p_is_whole) (defScope s_p_is_whole) .none kV0 dc0 pm0 an0 cd0 ct0), sl0⟩)
    (c0 : PySem.W.codeIn K cd0 "is_whole" = true) (k0 : PySem.W.keepIn K (.ref f0) = true)
    (a1 : PySem.W.nsIn K mainGlobals "common" = some (some (.ref f1)))
    (l1 : K.lookup f1 = some ⟨oc1, od1, .func (PySem.W.fnOf "common" "common" (defArgs s_p_common) (defBody s_p_common) (defScope s_p_common) .none kV1 dc1 pm1 an1 cd1 ct1), sl1⟩)
    (c1 : PySem.W.codeIn K cd1 "common" = true) (k1 : PySem.W.keepIn K (.ref f1) = true)
    (a2 : PySem.W.nsIn K mainGlobals "is_fraction" = some (some (.ref f2)))
    (l2 : K.lookup f2 = some ⟨oc2, od2, .func (PySem.W.fnOf "is_fraction" "is_fraction" (defArgs s_p_is_fraction) (defBody s_p_is_fraction) (defScope s_p_is_fraction) .none kV2 dc2 pm2 an2 cd2 ct2), sl2⟩)
    (c2 : PySem.W.codeIn K cd2 "is_fraction" = true) (k2 : PySem.W.keepIn K (.ref f2) = true)
    (a3 : PySem.W.nsIn K mainGlobals "lowest" = some (some (.ref f3)))
    (l3 : K.lookup f3 = some ⟨oc3, od3, .func (PySem.W.fnOf "lowest" "lowest" (defArgs s_p_lowest) (defBody s_p_lowest) (defScope s_p_lowest) .none kV3 dc3 pm3 an3 cd3 ct3), sl3⟩)
    (c3 : PySem.W.codeIn K cd3 "lowest" = true) (k3 : PySem.W.keepIn K (.ref f3) = true)
    (a4 : PySem.W.nsIn K mainGlobals "plus" = some (some (.ref f4)))
    (l4 : K.lookup f4 = some ⟨oc4, od4, .func (PySem.W.fnOf "plus" "plus" (defArgs s_p_plus) (defBody s_p_plus) (defScope s_p_plus) .none kV4 dc4 pm4 an4 cd4 ct4), sl4⟩)
    (c4 : PySem.W.codeIn K cd4 "plus" = true) (k4 : PySem.W.keepIn K (.ref f4) = true)
    (a5 : PySem.W.nsIn K mainGlobals "minus" = some (some (.ref f5)))
    (l5 : K.lookup f5 = some ⟨oc5, od5, .func (PySem.W.fnOf "minus" "minus" (defArgs s_p_minus) (defBody s_p_minus) (defScope s_p_minus) .none kV5 dc5 pm5 an5 cd5 ct5), sl5⟩)
    (c5 : PySem.W.codeIn K cd5 "minus" = true) (k5 : PySem.W.keepIn K (.ref f5) = true)
    (a6 : PySem.W.nsIn K mainGlobals "times" = some (some (.ref f6)))
    (l6 : K.lookup f6 = some ⟨oc6, od6, .func (PySem.W.fnOf "times" "times" (defArgs s_p_times) (defBody s_p_times) (defScope s_p_times) .none kV6 dc6 pm6 an6 cd6 ct6), sl6⟩)
    (c6 : PySem.W.codeIn K cd6 "times" = true) (k6 : PySem.W.keepIn K (.ref f6) = true)
    (a7 : PySem.W.nsIn K mainGlobals "is_one_of" = some (some (.ref f7)))
    (l7 : K.lookup f7 = some ⟨oc7, od7, .func (PySem.W.fnOf "is_one_of" "is_one_of" (defArgs s_p_is_one_of) (defBody s_p_is_one_of) (defScope s_p_is_one_of) .none kV7 dc7 pm7 an7 cd7 ct7), sl7⟩)
    (c7 : PySem.W.codeIn K cd7 "is_one_of" = true) (k7 : PySem.W.keepIn K (.ref f7) = true)
    (a8 : PySem.W.nsIn K mainGlobals "look_at_many" = some (some (.ref f8)))
    (l8 : K.lookup f8 = some ⟨oc8, od8, .func (PySem.W.fnOf "look_at_many" "look_at_many" (defArgs s_p_look_at_many) (defBody s_p_look_at_many) (defScope s_p_look_at_many) .none kV8 dc8 pm8 an8 cd8 ct8), sl8⟩)
    (c8 : PySem.W.codeIn K cd8 "look_at_many" = true) (k8 : PySem.W.keepIn K (.ref f8) = true)
    (a9 : PySem.W.nsIn K mainGlobals "is_line" = some (some (.ref f9)))
    (l9 : K.lookup f9 = some ⟨oc9, od9, .func (PySem.W.fnOf "is_line" "is_line" (defArgs s_p_is_line) (defBody s_p_is_line) (defScope s_p_is_line) .none kV9 dc9 pm9 an9 cd9 ct9), sl9⟩)
    (c9 : PySem.W.codeIn K cd9 "is_line" = true) (k9 : PySem.W.keepIn K (.ref f9) = true)
    (a10 : PySem.W.nsIn K mainGlobals "is_wish" = some (some (.ref f10)))
    (l10 : K.lookup f10 = some ⟨oc10, od10, .func (PySem.W.fnOf "is_wish" "is_wish" (defArgs s_p_is_wish) (defBody s_p_is_wish) (defScope s_p_is_wish) .none kV10 dc10 pm10 an10 cd10 ct10), sl10⟩)
    (c10 : PySem.W.codeIn K cd10 "is_wish" = true) (k10 : PySem.W.keepIn K (.ref f10) = true)
    (a11 : PySem.W.nsIn K mainGlobals "is_numbers" = some (some (.ref f11)))
    (l11 : K.lookup f11 = some ⟨oc11, od11, .func (PySem.W.fnOf "is_numbers" "is_numbers" (defArgs s_p_is_numbers) (defBody s_p_is_numbers) (defScope s_p_is_numbers) .none kV11 dc11 pm11 an11 cd11 ct11), sl11⟩)
    (c11 : PySem.W.codeIn K cd11 "is_numbers" = true) (k11 : PySem.W.keepIn K (.ref f11) = true)
    (a12 : PySem.W.nsIn K mainGlobals "worth" = some (some (.ref f12)))
    (l12 : K.lookup f12 = some ⟨oc12, od12, .func (PySem.W.fnOf "worth" "worth" (defArgs s_p_worth) (defBody s_p_worth) (defScope s_p_worth) .none kV12 dc12 pm12 an12 cd12 ct12), sl12⟩)
    (c12 : PySem.W.codeIn K cd12 "worth" = true) (k12 : PySem.W.keepIn K (.ref f12) = true)
    (a13 : PySem.W.nsIn K mainGlobals "comes_to" = some (some (.ref f13)))
    (l13 : K.lookup f13 = some ⟨oc13, od13, .func (PySem.W.fnOf "comes_to" "comes_to" (defArgs s_p_comes_to) (defBody s_p_comes_to) (defScope s_p_comes_to) .none kV13 dc13 pm13 an13 cd13 ct13), sl13⟩)
    (c13 : PySem.W.codeIn K cd13 "comes_to" = true) (k13 : PySem.W.keepIn K (.ref f13) = true)
    (a14 : PySem.W.nsIn K mainGlobals "grants" = some (some (.ref f14)))
    (l14 : K.lookup f14 = some ⟨oc14, od14, .func (PySem.W.fnOf "grants" "grants" (defArgs s_p_grants) (defBody s_p_grants) (defScope s_p_grants) .none kV14 dc14 pm14 an14 cd14 ct14), sl14⟩)
    (c14 : PySem.W.codeIn K cd14 "grants" = true) (k14 : PySem.W.keepIn K (.ref f14) = true)
    (a15 : PySem.W.nsIn K mainGlobals "is_letters" = some (some (.ref f15)))
    (l15 : K.lookup f15 = some ⟨oc15, od15, .func (PySem.W.fnOf "is_letters" "is_letters" (defArgs s_p_is_letters) (defBody s_p_is_letters) (defScope s_p_is_letters) .none kV15 dc15 pm15 an15 cd15 ct15), sl15⟩)
    (c15 : PySem.W.codeIn K cd15 "is_letters" = true) (k15 : PySem.W.keepIn K (.ref f15) = true)
    (a16 : PySem.W.nsIn K mainGlobals "is_name" = some (some (.ref f16)))
    (l16 : K.lookup f16 = some ⟨oc16, od16, .func (PySem.W.fnOf "is_name" "is_name" (defArgs s_p_is_name) (defBody s_p_is_name) (defScope s_p_is_name) .none kV16 dc16 pm16 an16 cd16 ct16), sl16⟩)
    (c16 : PySem.W.codeIn K cd16 "is_name" = true) (k16 : PySem.W.keepIn K (.ref f16) = true)
    (a17 : PySem.W.nsIn K mainGlobals "look_at_names" = some (some (.ref f17)))
    (l17 : K.lookup f17 = some ⟨oc17, od17, .func (PySem.W.fnOf "look_at_names" "look_at_names" (defArgs s_p_look_at_names) (defBody s_p_look_at_names) (defScope s_p_look_at_names) .none kV17 dc17 pm17 an17 cd17 ct17), sl17⟩)
    (c17 : PySem.W.codeIn K cd17 "look_at_names" = true) (k17 : PySem.W.keepIn K (.ref f17) = true)
    (a18 : PySem.W.nsIn K mainGlobals "is_wishes" = some (some (.ref f18)))
    (l18 : K.lookup f18 = some ⟨oc18, od18, .func (PySem.W.fnOf "is_wishes" "is_wishes" (defArgs s_p_is_wishes) (defBody s_p_is_wishes) (defScope s_p_is_wishes) .none kV18 dc18 pm18 an18 cd18 ct18), sl18⟩)
    (c18 : PySem.W.codeIn K cd18 "is_wishes" = true) (k18 : PySem.W.keepIn K (.ref f18) = true)
    (a19 : PySem.W.nsIn K mainGlobals "is_row" = some (some (.ref f19)))
    (l19 : K.lookup f19 = some ⟨oc19, od19, .func (PySem.W.fnOf "is_row" "is_row" (defArgs s_p_is_row) (defBody s_p_is_row) (defScope s_p_is_row) .none kV19 dc19 pm19 an19 cd19 ct19), sl19⟩)
    (c19 : PySem.W.codeIn K cd19 "is_row" = true) (k19 : PySem.W.keepIn K (.ref f19) = true)
    (a20 : PySem.W.nsIn K mainGlobals "look_at_rows" = some (some (.ref f20)))
    (l20 : K.lookup f20 = some ⟨oc20, od20, .func (PySem.W.fnOf "look_at_rows" "look_at_rows" (defArgs s_p_look_at_rows) (defBody s_p_look_at_rows) (defScope s_p_look_at_rows) .none kV20 dc20 pm20 an20 cd20 ct20), sl20⟩)
    (c20 : PySem.W.codeIn K cd20 "look_at_rows" = true) (k20 : PySem.W.keepIn K (.ref f20) = true)
    (a21 : PySem.W.nsIn K mainGlobals "look_at" = some (some (.ref f21)))
    (l21 : K.lookup f21 = some ⟨oc21, od21, .func (PySem.W.fnOf "look_at" "look_at" (defArgs s_p_look_at) (defBody s_p_look_at) (defScope s_p_look_at) .none kV21 dc21 pm21 an21 cd21 ct21), sl21⟩)
    (c21 : PySem.W.codeIn K cd21 "look_at" = true) (k21 : PySem.W.keepIn K (.ref f21) = true)
    (a22 : PySem.W.nsIn K mainGlobals "is_closed" = some (some (.ref f22)))
    (l22 : K.lookup f22 = some ⟨oc22, od22, .func (PySem.W.fnOf "is_closed" "is_closed" (defArgs s_p_is_closed) (defBody s_p_is_closed) (defScope s_p_is_closed) .none kV22 dc22 pm22 an22 cd22 ct22), sl22⟩)
    (c22 : PySem.W.codeIn K cd22 "is_closed" = true) (k22 : PySem.W.keepIn K (.ref f22) = true)
    (a23 : PySem.W.nsIn K mainGlobals "is_ring" = some (some (.ref f23)))
    (l23 : K.lookup f23 = some ⟨oc23, od23, .func (PySem.W.fnOf "is_ring" "is_ring" (defArgs s_p_is_ring) (defBody s_p_is_ring) (defScope s_p_is_ring) .none kV23 dc23 pm23 an23 cd23 ct23), sl23⟩)
    (c23 : PySem.W.codeIn K cd23 "is_ring" = true) (k23 : PySem.W.keepIn K (.ref f23) = true)
    (a24 : PySem.W.nsIn K mainGlobals "is_lists" = some (some (.ref f24)))
    (l24 : K.lookup f24 = some ⟨oc24, od24, .func (PySem.W.fnOf "is_lists" "is_lists" (defArgs s_p_is_lists) (defBody s_p_is_lists) (defScope s_p_is_lists) .none kV24 dc24 pm24 an24 cd24 ct24), sl24⟩)
    (c24 : PySem.W.codeIn K cd24 "is_lists" = true) (k24 : PySem.W.keepIn K (.ref f24) = true)
    (a25 : PySem.W.nsIn K mainGlobals "goes_round" = some (some (.ref f25)))
    (l25 : K.lookup f25 = some ⟨oc25, od25, .func (PySem.W.fnOf "goes_round" "goes_round" (defArgs s_p_goes_round) (defBody s_p_goes_round) (defScope s_p_goes_round) .none kV25 dc25 pm25 an25 cd25 ct25), sl25⟩)
    (c25 : PySem.W.codeIn K cd25 "goes_round" = true) (k25 : PySem.W.keepIn K (.ref f25) = true)
    (a26 : PySem.W.nsIn K mainGlobals "is_round" = some (some (.ref f26)))
    (l26 : K.lookup f26 = some ⟨oc26, od26, .func (PySem.W.fnOf "is_round" "is_round" (defArgs s_p_is_round) (defBody s_p_is_round) (defScope s_p_is_round) .none kV26 dc26 pm26 an26 cd26 ct26), sl26⟩)
    (c26 : PySem.W.codeIn K cd26 "is_round" = true) (k26 : PySem.W.keepIn K (.ref f26) = true)
    (a27 : PySem.W.nsIn K mainGlobals "lets_round" = some (some (.ref f27)))
    (l27 : K.lookup f27 = some ⟨oc27, od27, .func (PySem.W.fnOf "lets_round" "lets_round" (defArgs s_p_lets_round) (defBody s_p_lets_round) (defScope s_p_lets_round) .none kV27 dc27 pm27 an27 cd27 ct27), sl27⟩)
    (c27 : PySem.W.codeIn K cd27 "lets_round" = true) (k27 : PySem.W.keepIn K (.ref f27) = true)
    (a28 : PySem.W.nsIn K mainGlobals "_law_pool" = some (some (.ref f28)))
    (l28 : K.lookup f28 = some ⟨oc28, od28, .func (PySem.W.fnOf "_law_pool" "_law_pool" (defArgs s_L_pool) (defBody s_L_pool) (defScope s_L_pool) .none kV28 dc28 pm28 an28 cd28 ct28), sl28⟩)
    (c28 : PySem.W.codeIn K cd28 "_law_pool" = true) (k28 : PySem.W.keepIn K (.ref f28) = true)
    (a29 : PySem.W.nsIn K mainGlobals "_law_take" = some (some (.ref f29)))
    (l29 : K.lookup f29 = some ⟨oc29, od29, .func (PySem.W.fnOf "_law_take" "_law_take" (defArgs s_L_take) (defBody s_L_take) (defScope s_L_take) .none kV29 dc29 pm29 an29 cd29 ct29), sl29⟩)
    (c29 : PySem.W.codeIn K cd29 "_law_take" = true) (k29 : PySem.W.keepIn K (.ref f29) = true)
    (a30 : PySem.W.nsIn K mainGlobals "_law_line" = some (some (.ref f30)))
    (l30 : K.lookup f30 = some ⟨oc30, od30, .func (PySem.W.fnOf "_law_line" "_law_line" (defArgs s_L_line) (defBody s_L_line) (defScope s_L_line) .none kV30 dc30 pm30 an30 cd30 ct30), sl30⟩)
    (c30 : PySem.W.codeIn K cd30 "_law_line" = true) (k30 : PySem.W.keepIn K (.ref f30) = true)
    (a31 : PySem.W.nsIn K mainGlobals "_law_low" = some (some (.ref f31)))
    (l31 : K.lookup f31 = some ⟨oc31, od31, .func (PySem.W.fnOf "_law_low" "_law_low" (defArgs s_L_low) (defBody s_L_low) (defScope s_L_low) .none kV31 dc31 pm31 an31 cd31 ct31), sl31⟩)
    (c31 : PySem.W.codeIn K cd31 "_law_low" = true) (k31 : PySem.W.keepIn K (.ref f31) = true)
    (a32 : PySem.W.nsIn K mainGlobals "_law_sum" = some (some (.ref f32)))
    (l32 : K.lookup f32 = some ⟨oc32, od32, .func (PySem.W.fnOf "_law_sum" "_law_sum" (defArgs s_L_sum) (defBody s_L_sum) (defScope s_L_sum) .none kV32 dc32 pm32 an32 cd32 ct32), sl32⟩)
    (c32 : PySem.W.codeIn K cd32 "_law_sum" = true) (k32 : PySem.W.keepIn K (.ref f32) = true)
    (a33 : PySem.W.nsIn K mainGlobals "_law_product" = some (some (.ref f33)))
    (l33 : K.lookup f33 = some ⟨oc33, od33, .func (PySem.W.fnOf "_law_product" "_law_product" (defArgs s_L_product) (defBody s_L_product) (defScope s_L_product) .none kV33 dc33 pm33 an33 cd33 ct33), sl33⟩)
    (c33 : PySem.W.codeIn K cd33 "_law_product" = true) (k33 : PySem.W.keepIn K (.ref f33) = true)
    (a34 : PySem.W.nsIn K mainGlobals "_law_worth" = some (some (.ref f34)))
    (l34 : K.lookup f34 = some ⟨oc34, od34, .func (PySem.W.fnOf "_law_worth" "_law_worth" (defArgs s_L_worth) (defBody s_L_worth) (defScope s_L_worth) .none kV34 dc34 pm34 an34 cd34 ct34), sl34⟩)
    (c34 : PySem.W.codeIn K cd34 "_law_worth" = true) (k34 : PySem.W.keepIn K (.ref f34) = true)
    (a35 : PySem.W.nsIn K mainGlobals "_law_stop" = some (some (.ref f35)))
    (l35 : K.lookup f35 = some ⟨oc35, od35, .func (PySem.W.fnOf "_law_stop" "_law_stop" (defArgs s_L_stop) (defBody s_L_stop) (defScope s_L_stop) .none kV35 dc35 pm35 an35 cd35 ct35), sl35⟩)
    (c35 : PySem.W.codeIn K cd35 "_law_stop" = true) (k35 : PySem.W.keepIn K (.ref f35) = true)
    (a36 : PySem.W.nsIn K mainGlobals "_law_all" = some (some (.ref f36)))
    (l36 : K.lookup f36 = some ⟨oc36, od36, .func (PySem.W.fnOf "_law_all" "_law_all" (defArgs s_L_all) (defBody s_L_all) (defScope s_L_all) .none kV36 dc36 pm36 an36 cd36 ct36), sl36⟩)
    (c36 : PySem.W.codeIn K cd36 "_law_all" = true) (k36 : PySem.W.keepIn K (.ref f36) = true)
    (a37 : PySem.W.nsIn K mainGlobals "_law_bare" = some (some (.ref f37)))
    (l37 : K.lookup f37 = some ⟨oc37, od37, .func (PySem.W.fnOf "_law_bare" "_law_bare" (defArgs s_L_bare) (defBody s_L_bare) (defScope s_L_bare) .none kV37 dc37 pm37 an37 cd37 ct37), sl37⟩)
    (c37 : PySem.W.codeIn K cd37 "_law_bare" = true) (k37 : PySem.W.keepIn K (.ref f37) = true)
    (a38 : PySem.W.nsIn K mainGlobals "_law_kept_wish" = some (some (.ref f38)))
    (l38 : K.lookup f38 = some ⟨oc38, od38, .func (PySem.W.fnOf "_law_kept_wish" "_law_kept_wish" (defArgs s_L_kept_wish) (defBody s_L_kept_wish) (defScope s_L_kept_wish) .none kV38 dc38 pm38 an38 cd38 ct38), sl38⟩)
    (c38 : PySem.W.codeIn K cd38 "_law_kept_wish" = true) (k38 : PySem.W.keepIn K (.ref f38) = true)
    (a39 : PySem.W.nsIn K mainGlobals "_law_ringed" = some (some (.ref f39)))
    (l39 : K.lookup f39 = some ⟨oc39, od39, .func (PySem.W.fnOf "_law_ringed" "_law_ringed" (defArgs s_L_ringed) (defBody s_L_ringed) (defScope s_L_ringed) .none kV39 dc39 pm39 an39 cd39 ct39), sl39⟩)
    (c39 : PySem.W.codeIn K cd39 "_law_ringed" = true) (k39 : PySem.W.keepIn K (.ref f39) = true)
    (a40 : PySem.W.nsIn K mainGlobals "_law_is_whole" = some (some (.ref f40)))
    (l40 : K.lookup f40 = some ⟨oc40, od40, .func (PySem.W.fnOf "_law_is_whole" "_law_is_whole" (defArgs s_L_is_whole) (defBody s_L_is_whole) (defScope s_L_is_whole) .none kV40 dc40 pm40 an40 cd40 ct40), sl40⟩)
    (c40 : PySem.W.codeIn K cd40 "_law_is_whole" = true) (k40 : PySem.W.keepIn K (.ref f40) = true)
    (a41 : PySem.W.nsIn K mainGlobals "_law_is_ring" = some (some (.ref f41)))
    (l41 : K.lookup f41 = some ⟨oc41, od41, .func (PySem.W.fnOf "_law_is_ring" "_law_is_ring" (defArgs s_L_is_ring) (defBody s_L_is_ring) (defScope s_L_is_ring) .none kV41 dc41 pm41 an41 cd41 ct41), sl41⟩)
    (c41 : PySem.W.codeIn K cd41 "_law_is_ring" = true) (k41 : PySem.W.keepIn K (.ref f41) = true)
    (a42 : PySem.W.nsIn K mainGlobals "_law_suits" = some (some (.ref f42)))
    (l42 : K.lookup f42 = some ⟨oc42, od42, .func (PySem.W.fnOf "_law_suits" "_law_suits" (defArgs s_L_suits) (defBody s_L_suits) (defScope s_L_suits) .none kV42 dc42 pm42 an42 cd42 ct42), sl42⟩)
    (c42 : PySem.W.codeIn K cd42 "_law_suits" = true) (k42 : PySem.W.keepIn K (.ref f42) = true)
    (a43 : PySem.W.nsIn K mainGlobals "_law_granted" = some (some (.ref f43)))
    (l43 : K.lookup f43 = some ⟨oc43, od43, .func (PySem.W.fnOf "_law_granted" "_law_granted" (defArgs s_L_granted) (defBody s_L_granted) (defScope s_L_granted) .none kV43 dc43 pm43 an43 cd43 ct43), sl43⟩)
    (c43 : PySem.W.codeIn K cd43 "_law_granted" = true) (k43 : PySem.W.keepIn K (.ref f43) = true)
    (a44 : PySem.W.nsIn K mainGlobals "_law_is_fraction" = some (some (.ref f44)))
    (l44 : K.lookup f44 = some ⟨oc44, od44, .func (PySem.W.fnOf "_law_is_fraction" "_law_is_fraction" (defArgs s_L_is_fraction) (defBody s_L_is_fraction) (defScope s_L_is_fraction) .none kV44 dc44 pm44 an44 cd44 ct44), sl44⟩)
    (c44 : PySem.W.codeIn K cd44 "_law_is_fraction" = true) (k44 : PySem.W.keepIn K (.ref f44) = true)
    (a45 : PySem.W.nsIn K mainGlobals "_law_are_fractions" = some (some (.ref f45)))
    (l45 : K.lookup f45 = some ⟨oc45, od45, .func (PySem.W.fnOf "_law_are_fractions" "_law_are_fractions" (defArgs s_L_are_fractions) (defBody s_L_are_fractions) (defScope s_L_are_fractions) .none kV45 dc45 pm45 an45 cd45 ct45), sl45⟩)
    (c45 : PySem.W.codeIn K cd45 "_law_are_fractions" = true) (k45 : PySem.W.keepIn K (.ref f45) = true)
    (a46 : PySem.W.nsIn K mainGlobals "_law_is_lap" = some (some (.ref f46)))
    (l46 : K.lookup f46 = some ⟨oc46, od46, .func (PySem.W.fnOf "_law_is_lap" "_law_is_lap" (defArgs s_L_is_lap) (defBody s_L_is_lap) (defScope s_L_is_lap) .none kV46 dc46 pm46 an46 cd46 ct46), sl46⟩)
    (c46 : PySem.W.codeIn K cd46 "_law_is_lap" = true) (k46 : PySem.W.keepIn K (.ref f46) = true)
    (a47 : PySem.W.nsIn K mainGlobals "_law_odd" = some (some (.ref f47)))
    (l47 : K.lookup f47 = some ⟨oc47, od47, .func (PySem.W.fnOf "_law_odd" "_law_odd" (defArgs s_L_odd) (defBody s_L_odd) (defScope s_L_odd) .none kV47 dc47 pm47 an47 cd47 ct47), sl47⟩)
    (c47 : PySem.W.codeIn K cd47 "_law_odd" = true) (k47 : PySem.W.keepIn K (.ref f47) = true)
    (a48 : PySem.W.nsIn K mainGlobals "_law_put" = some (some (.ref f48)))
    (l48 : K.lookup f48 = some ⟨oc48, od48, .func (PySem.W.fnOf "_law_put" "_law_put" (defArgs s_L_put) (defBody s_L_put) (defScope s_L_put) .none kV48 dc48 pm48 an48 cd48 ct48), sl48⟩)
    (c48 : PySem.W.codeIn K cd48 "_law_put" = true) (k48 : PySem.W.keepIn K (.ref f48) = true)
    (a49 : PySem.W.nsIn K mainGlobals "_law_right" = some (some (.ref f49)))
    (l49 : K.lookup f49 = some ⟨oc49, od49, .func (PySem.W.fnOf "_law_right" "_law_right" (defArgs s_L_right) (defBody s_L_right) (defScope s_L_right) .none kV49 dc49 pm49 an49 cd49 ct49), sl49⟩)
    (c49 : PySem.W.codeIn K cd49 "_law_right" = true) (k49 : PySem.W.keepIn K (.ref f49) = true)
    (a50 : PySem.W.nsIn K mainGlobals "_law_twice" = some (some (.ref f50)))
    (l50 : K.lookup f50 = some ⟨oc50, od50, .func (PySem.W.fnOf "_law_twice" "_law_twice" (defArgs s_L_twice) (defBody s_L_twice) (defScope s_L_twice) .none kV50 dc50 pm50 an50 cd50 ct50), sl50⟩)
    (c50 : PySem.W.codeIn K cd50 "_law_twice" = true) (k50 : PySem.W.keepIn K (.ref f50) = true)
    (a51 : PySem.W.nsIn K mainGlobals "law" = some (some (.ref f51)))
    (l51 : K.lookup f51 = some ⟨oc51, od51, .func (PySem.W.fnOf "law" "law" (defArgs s_L_law) (defBody s_L_law) (defScope s_L_law) .none kV51 dc51 pm51 an51 cd51 ct51), sl51⟩)
    (c51 : PySem.W.codeIn K cd51 "law" = true) (k51 : PySem.W.keepIn K (.ref f51) = true)
    (z_abs : PySem.W.nsIn K mainGlobals "abs" = some none)
    (z_all : PySem.W.nsIn K mainGlobals "all" = some none)
    (z_bool : PySem.W.nsIn K mainGlobals "bool" = some none)
    (z_enumerate : PySem.W.nsIn K mainGlobals "enumerate" = some none)
    (z_int : PySem.W.nsIn K mainGlobals "int" = some none)
    (z_isinstance : PySem.W.nsIn K mainGlobals "isinstance" = some none)
    (z_len : PySem.W.nsIn K mainGlobals "len" = some none)
    (z_list : PySem.W.nsIn K mainGlobals "list" = some none)
    (z_max : PySem.W.nsIn K mainGlobals "max" = some none)
    (z_min : PySem.W.nsIn K mainGlobals "min" = some none)
    (z_range : PySem.W.nsIn K mainGlobals "range" = some none)
    (z_repr : PySem.W.nsIn K mainGlobals "repr" = some none)
    (z_str : PySem.W.nsIn K mainGlobals "str" = some none)
    (z_tuple : PySem.W.nsIn K mainGlobals "tuple" = some none)
    (z_zip : PySem.W.nsIn K mainGlobals "zip" = some none)
    (x_JUST : PySem.W.nsIn K mainGlobals "JUST" = some (some (.str "just" tk_JUST)))
    (x_LEAST : PySem.W.nsIn K mainGlobals "LEAST" = some (some (.str "least" tk_LEAST)))
    (x_LETTERS : PySem.W.nsIn K mainGlobals "LETTERS" = some (some (.str "abcdefghijklmnopqrstuvwxyz" tk_LETTERS)))
    (x_LONGEST_NAME : PySem.W.nsIn K mainGlobals "LONGEST_NAME" = some (some (.int (6) tk_LONGEST_NAME)))
    (x_MOST_IN_RING : PySem.W.nsIn K mainGlobals "MOST_IN_RING" = some (some (.int (12) tk_MOST_IN_RING)))
    (x_MOST_NAMES : PySem.W.nsIn K mainGlobals "MOST_NAMES" = some (some (.int (3) tk_MOST_NAMES)))
    (x_MOST_NUMBERS : PySem.W.nsIn K mainGlobals "MOST_NUMBERS" = some (some (.int (8) tk_MOST_NUMBERS)))
    (x_MOST_PLACES : PySem.W.nsIn K mainGlobals "MOST_PLACES" = some (some (.int (6) tk_MOST_PLACES)))
    (x_MOST_ROWS : PySem.W.nsIn K mainGlobals "MOST_ROWS" = some (some (.int (10) tk_MOST_ROWS)))
    (x_MOST_WISHES : PySem.W.nsIn K mainGlobals "MOST_WISHES" = some (some (.int (12) tk_MOST_WISHES)))
    (x_NOUGHT : PySem.W.nsIn K mainGlobals "NOUGHT" = some (some (.ref ad_NOUGHT)))
    (y_NOUGHT : K.lookup ad_NOUGHT = some ⟨.type "tuple", dd_NOUGHT, .seq #[.int (0) tk_NOUGHT_0, .int (1) tk_NOUGHT_1] nn_NOUGHT, ss_NOUGHT⟩)
    (x_ONE : PySem.W.nsIn K mainGlobals "ONE" = some (some (.ref ad_ONE)))
    (y_ONE : K.lookup ad_ONE = some ⟨.type "tuple", dd_ONE, .seq #[.int (1) tk_ONE_0, .int (1) tk_ONE_1] nn_ONE, ss_ONE⟩)
    : ∃ fd : FuncData, (∀ (s : Shared) (v : Value), BindsTo s fd ⟨[v], []⟩ [("_law_script", v)]) ∧
      ∀ base : Heap, K.In base → base.Ns mainGlobals mg → FnG l.prog w K mg base 11 fa fd ["_law_script"] (spD K sp_L_law) := by
  have e := hfa.symm.trans (PySem.W.mg_of X G a51)
  cases e
  have F0 := fun_mk (st := s_p_is_whole) l0 c0 k0
  have F1 := fun_mk (st := s_p_common) l1 c1 k1
  have F2 := fun_mk (st := s_p_is_fraction) l2 c2 k2
  have F3 := fun_mk (st := s_p_lowest) l3 c3 k3
  have F4 := fun_mk (st := s_p_plus) l4 c4 k4
  have F5 := fun_mk (st := s_p_minus) l5 c5 k5
  have F6 := fun_mk (st := s_p_times) l6 c6 k6
  have F7 := fun_mk (st := s_p_is_one_of) l7 c7 k7
  have F8 := fun_mk (st := s_p_look_at_many) l8 c8 k8
  have F9 := fun_mk (st := s_p_is_line) l9 c9 k9
  have F10 := fun_mk (st := s_p_is_wish) l10 c10 k10
  have F11 := fun_mk (st := s_p_is_numbers) l11 c11 k11
  have F12 := fun_mk (st := s_p_worth) l12 c12 k12
  have F13 := fun_mk (st := s_p_comes_to) l13 c13 k13
  have F14 := fun_mk (st := s_p_grants) l14 c14 k14
  have F15 := fun_mk (st := s_p_is_letters) l15 c15 k15
  have F16 := fun_mk (st := s_p_is_name) l16 c16 k16
  have F17 := fun_mk (st := s_p_look_at_names) l17 c17 k17
  have F18 := fun_mk (st := s_p_is_wishes) l18 c18 k18
  have F19 := fun_mk (st := s_p_is_row) l19 c19 k19
  have F20 := fun_mk (st := s_p_look_at_rows) l20 c20 k20
  have F21 := fun_mk (st := s_p_look_at) l21 c21 k21
  have F22 := fun_mk (st := s_p_is_closed) l22 c22 k22
  have F23 := fun_mk (st := s_p_is_ring) l23 c23 k23
  have F24 := fun_mk (st := s_p_is_lists) l24 c24 k24
  have F25 := fun_mk (st := s_p_goes_round) l25 c25 k25
  have F26 := fun_mk (st := s_p_is_round) l26 c26 k26
  have F27 := fun_mk (st := s_p_lets_round) l27 c27 k27
  have F28 := fun_mk (st := s_L_pool) l28 c28 k28
  have F29 := fun_mk (st := s_L_take) l29 c29 k29
  have F30 := fun_mk (st := s_L_line) l30 c30 k30
  have F31 := fun_mk (st := s_L_low) l31 c31 k31
  have F32 := fun_mk (st := s_L_sum) l32 c32 k32
  have F33 := fun_mk (st := s_L_product) l33 c33 k33
  have F34 := fun_mk (st := s_L_worth) l34 c34 k34
  have F35 := fun_mk (st := s_L_stop) l35 c35 k35
  have F36 := fun_mk (st := s_L_all) l36 c36 k36
  have F37 := fun_mk (st := s_L_bare) l37 c37 k37
  have F38 := fun_mk (st := s_L_kept_wish) l38 c38 k38
  have F39 := fun_mk (st := s_L_ringed) l39 c39 k39
  have F40 := fun_mk (st := s_L_is_whole) l40 c40 k40
  have F41 := fun_mk (st := s_L_is_ring) l41 c41 k41
  have F42 := fun_mk (st := s_L_suits) l42 c42 k42
  have F43 := fun_mk (st := s_L_granted) l43 c43 k43
  have F44 := fun_mk (st := s_L_is_fraction) l44 c44 k44
  have F45 := fun_mk (st := s_L_are_fractions) l45 c45 k45
  have F46 := fun_mk (st := s_L_is_lap) l46 c46 k46
  have F47 := fun_mk (st := s_L_odd) l47 c47 k47
  have F48 := fun_mk (st := s_L_put) l48 c48 k48
  have F49 := fun_mk (st := s_L_right) l49 c49 k49
  have F50 := fun_mk (st := s_L_twice) l50 c50 k50
  have F51 := fun_mk (st := s_L_law) l51 c51 k51
  let T : Tx l.prog K mg := {
    n_abs := PySem.W.mg_none_of X G z_abs
    n_all := PySem.W.mg_none_of X G z_all
    n_bool := PySem.W.mg_none_of X G z_bool
    n_enumerate := PySem.W.mg_none_of X G z_enumerate
    n_int := PySem.W.mg_none_of X G z_int
    n_isinstance := PySem.W.mg_none_of X G z_isinstance
    n_len := PySem.W.mg_none_of X G z_len
    n_list := PySem.W.mg_none_of X G z_list
    n_max := PySem.W.mg_none_of X G z_max
    n_min := PySem.W.mg_none_of X G z_min
    n_range := PySem.W.mg_none_of X G z_range
    n_repr := PySem.W.mg_none_of X G z_repr
    n_str := PySem.W.mg_none_of X G z_str
    n_tuple := PySem.W.mg_none_of X G z_tuple
    n_zip := PySem.W.mg_none_of X G z_zip
    u_JUST := tk_JUST
    c_JUST := PySem.W.mg_of X G x_JUST
    u_LEAST := tk_LEAST
    c_LEAST := PySem.W.mg_of X G x_LEAST
    u_LETTERS := tk_LETTERS
    c_LETTERS := PySem.W.mg_of X G x_LETTERS
    u_LONGEST_NAME := tk_LONGEST_NAME
    c_LONGEST_NAME := PySem.W.mg_of X G x_LONGEST_NAME
    u_MOST_IN_RING := tk_MOST_IN_RING
    c_MOST_IN_RING := PySem.W.mg_of X G x_MOST_IN_RING
    u_MOST_NAMES := tk_MOST_NAMES
    c_MOST_NAMES := PySem.W.mg_of X G x_MOST_NAMES
    u_MOST_NUMBERS := tk_MOST_NUMBERS
    c_MOST_NUMBERS := PySem.W.mg_of X G x_MOST_NUMBERS
    u_MOST_PLACES := tk_MOST_PLACES
    c_MOST_PLACES := PySem.W.mg_of X G x_MOST_PLACES
    u_MOST_ROWS := tk_MOST_ROWS
    c_MOST_ROWS := PySem.W.mg_of X G x_MOST_ROWS
    u_MOST_WISHES := tk_MOST_WISHES
    c_MOST_WISHES := PySem.W.mg_of X G x_MOST_WISHES
    a_NOUGHT := ad_NOUGHT
    c_NOUGHT := PySem.W.mg_of X G x_NOUGHT
    k_NOUGHT := fun F => DR.tup (xs := [.int (0), .int (1)]) (.inr ⟨_, _, _, y_NOUGHT, rfl, rfl, (show 2 ≤ sizeLine by decide), .cons ⟨_, rfl⟩ (.cons ⟨_, rfl⟩ .nil)⟩) (.cons (.int _) (.cons (.int _) .nil))
    a_ONE := ad_ONE
    c_ONE := PySem.W.mg_of X G x_ONE
    k_ONE := fun F => DR.tup (xs := [.int (1), .int (1)]) (.inr ⟨_, _, _, y_ONE, rfl, rfl, (show 2 ≤ sizeLine by decide), .cons ⟨_, rfl⟩ (.cons ⟨_, rfl⟩ .nil)⟩) (.cons (.int _) (.cons (.int _) .nil))
    f_p_is_whole := f0
    d_p_is_whole := _
    F_p_is_whole := F0
    g_p_is_whole := PySem.W.mg_of X G a0
    f_p_common := f1
    d_p_common := _
    F_p_common := F1
    g_p_common := PySem.W.mg_of X G a1
    f_p_is_fraction := f2
    d_p_is_fraction := _
    F_p_is_fraction := F2
    g_p_is_fraction := PySem.W.mg_of X G a2
    f_p_lowest := f3
    d_p_lowest := _
    F_p_lowest := F3
    g_p_lowest := PySem.W.mg_of X G a3
    f_p_plus := f4
    d_p_plus := _
    F_p_plus := F4
    g_p_plus := PySem.W.mg_of X G a4
    f_p_minus := f5
    d_p_minus := _
    F_p_minus := F5
    g_p_minus := PySem.W.mg_of X G a5
    f_p_times := f6
    d_p_times := _
    F_p_times := F6
    g_p_times := PySem.W.mg_of X G a6
    f_p_is_one_of := f7
    d_p_is_one_of := _
    F_p_is_one_of := F7
    g_p_is_one_of := PySem.W.mg_of X G a7
    f_p_look_at_many := f8
    d_p_look_at_many := _
    F_p_look_at_many := F8
    g_p_look_at_many := PySem.W.mg_of X G a8
    f_p_is_line := f9
    d_p_is_line := _
    F_p_is_line := F9
    g_p_is_line := PySem.W.mg_of X G a9
    f_p_is_wish := f10
    d_p_is_wish := _
    F_p_is_wish := F10
    g_p_is_wish := PySem.W.mg_of X G a10
    f_p_is_numbers := f11
    d_p_is_numbers := _
    F_p_is_numbers := F11
    g_p_is_numbers := PySem.W.mg_of X G a11
    f_p_worth := f12
    d_p_worth := _
    F_p_worth := F12
    g_p_worth := PySem.W.mg_of X G a12
    f_p_comes_to := f13
    d_p_comes_to := _
    F_p_comes_to := F13
    g_p_comes_to := PySem.W.mg_of X G a13
    f_p_grants := f14
    d_p_grants := _
    F_p_grants := F14
    g_p_grants := PySem.W.mg_of X G a14
    f_p_is_letters := f15
    d_p_is_letters := _
    F_p_is_letters := F15
    g_p_is_letters := PySem.W.mg_of X G a15
    f_p_is_name := f16
    d_p_is_name := _
    F_p_is_name := F16
    g_p_is_name := PySem.W.mg_of X G a16
    f_p_look_at_names := f17
    d_p_look_at_names := _
    F_p_look_at_names := F17
    g_p_look_at_names := PySem.W.mg_of X G a17
    f_p_is_wishes := f18
    d_p_is_wishes := _
    F_p_is_wishes := F18
    g_p_is_wishes := PySem.W.mg_of X G a18
    f_p_is_row := f19
    d_p_is_row := _
    F_p_is_row := F19
    g_p_is_row := PySem.W.mg_of X G a19
    f_p_look_at_rows := f20
    d_p_look_at_rows := _
    F_p_look_at_rows := F20
    g_p_look_at_rows := PySem.W.mg_of X G a20
    f_p_look_at := f21
    d_p_look_at := _
    F_p_look_at := F21
    g_p_look_at := PySem.W.mg_of X G a21
    f_p_is_closed := f22
    d_p_is_closed := _
    F_p_is_closed := F22
    g_p_is_closed := PySem.W.mg_of X G a22
    f_p_is_ring := f23
    d_p_is_ring := _
    F_p_is_ring := F23
    g_p_is_ring := PySem.W.mg_of X G a23
    f_p_is_lists := f24
    d_p_is_lists := _
    F_p_is_lists := F24
    g_p_is_lists := PySem.W.mg_of X G a24
    f_p_goes_round := f25
    d_p_goes_round := _
    F_p_goes_round := F25
    g_p_goes_round := PySem.W.mg_of X G a25
    f_p_is_round := f26
    d_p_is_round := _
    F_p_is_round := F26
    g_p_is_round := PySem.W.mg_of X G a26
    f_p_lets_round := f27
    d_p_lets_round := _
    F_p_lets_round := F27
    g_p_lets_round := PySem.W.mg_of X G a27
    f_L_pool := f28
    d_L_pool := _
    F_L_pool := F28
    g_L_pool := PySem.W.mg_of X G a28
    f_L_take := f29
    d_L_take := _
    F_L_take := F29
    g_L_take := PySem.W.mg_of X G a29
    f_L_line := f30
    d_L_line := _
    F_L_line := F30
    g_L_line := PySem.W.mg_of X G a30
    f_L_low := f31
    d_L_low := _
    F_L_low := F31
    g_L_low := PySem.W.mg_of X G a31
    f_L_sum := f32
    d_L_sum := _
    F_L_sum := F32
    g_L_sum := PySem.W.mg_of X G a32
    f_L_product := f33
    d_L_product := _
    F_L_product := F33
    g_L_product := PySem.W.mg_of X G a33
    f_L_worth := f34
    d_L_worth := _
    F_L_worth := F34
    g_L_worth := PySem.W.mg_of X G a34
    f_L_stop := f35
    d_L_stop := _
    F_L_stop := F35
    g_L_stop := PySem.W.mg_of X G a35
    f_L_all := f36
    d_L_all := _
    F_L_all := F36
    g_L_all := PySem.W.mg_of X G a36
    f_L_bare := f37
    d_L_bare := _
    F_L_bare := F37
    g_L_bare := PySem.W.mg_of X G a37
    f_L_kept_wish := f38
    d_L_kept_wish := _
    F_L_kept_wish := F38
    g_L_kept_wish := PySem.W.mg_of X G a38
    f_L_ringed := f39
    d_L_ringed := _
    F_L_ringed := F39
    g_L_ringed := PySem.W.mg_of X G a39
    f_L_is_whole := f40
    d_L_is_whole := _
    F_L_is_whole := F40
    g_L_is_whole := PySem.W.mg_of X G a40
    f_L_is_ring := f41
    d_L_is_ring := _
    F_L_is_ring := F41
    g_L_is_ring := PySem.W.mg_of X G a41
    f_L_suits := f42
    d_L_suits := _
    F_L_suits := F42
    g_L_suits := PySem.W.mg_of X G a42
    f_L_granted := f43
    d_L_granted := _
    F_L_granted := F43
    g_L_granted := PySem.W.mg_of X G a43
    f_L_is_fraction := f44
    d_L_is_fraction := _
    F_L_is_fraction := F44
    g_L_is_fraction := PySem.W.mg_of X G a44
    f_L_are_fractions := f45
    d_L_are_fractions := _
    F_L_are_fractions := F45
    g_L_are_fractions := PySem.W.mg_of X G a45
    f_L_is_lap := f46
    d_L_is_lap := _
    F_L_is_lap := F46
    g_L_is_lap := PySem.W.mg_of X G a46
    f_L_odd := f47
    d_L_odd := _
    F_L_odd := F47
    g_L_odd := PySem.W.mg_of X G a47
    f_L_put := f48
    d_L_put := _
    F_L_put := F48
    g_L_put := PySem.W.mg_of X G a48
    f_L_right := f49
    d_L_right := _
    F_L_right := F49
    g_L_right := PySem.W.mg_of X G a49
    f_L_twice := f50
    d_L_twice := _
    F_L_twice := F50
    g_L_twice := PySem.W.mg_of X G a50
    f_L_law := fa
    d_L_law := _
    F_L_law := F51
    g_L_law := PySem.W.mg_of X G a51
    b_L_all_2 := bnd_of F36 fun _ _ _ _ _ _ us ws h1 h2 => match us, ws, h1, h2 with | [_, _], [], _, _ => rfl
    b_L_are_fractions_2 := bnd_of F45 fun _ _ _ _ _ _ us ws h1 h2 => match us, ws, h1, h2 with | [_, _], [], _, _ => rfl
    b_L_bare_2 := bnd_of F37 fun _ _ _ _ _ _ us ws h1 h2 => match us, ws, h1, h2 with | [_, _], [], _, _ => rfl
    b_L_granted_2 := bnd_of F43 fun _ _ _ _ _ _ us ws h1 h2 => match us, ws, h1, h2 with | [_, _], [], _, _ => rfl
    b_L_is_fraction_1 := bnd_of F44 fun _ _ _ _ _ _ us ws h1 h2 => match us, ws, h1, h2 with | [_], [], _, _ => rfl
    b_L_is_lap_2 := bnd_of F46 fun _ _ _ _ _ _ us ws h1 h2 => match us, ws, h1, h2 with | [_, _], [], _, _ => rfl
    b_L_is_ring_2 := bnd_of F41 fun _ _ _ _ _ _ us ws h1 h2 => match us, ws, h1, h2 with | [_, _], [], _, _ => rfl
    b_L_is_whole_1 := bnd_of F40 fun _ _ _ _ _ _ us ws h1 h2 => match us, ws, h1, h2 with | [_], [], _, _ => rfl
    b_L_kept_wish_4 := bnd_of F38 fun _ _ _ _ _ _ us ws h1 h2 => match us, ws, h1, h2 with | [_, _, _, _], [], _, _ => rfl
    b_L_line_3 := bnd_of F30 fun _ _ _ _ _ _ us ws h1 h2 => match us, ws, h1, h2 with | [_, _, _], [], _, _ => rfl
    b_L_low_2 := bnd_of F31 fun _ _ _ _ _ _ us ws h1 h2 => match us, ws, h1, h2 with | [_, _], [], _, _ => rfl
    b_L_odd_2 := bnd_of F47 fun _ _ _ _ _ _ us ws h1 h2 => match us, ws, h1, h2 with | [_, _], [], _, _ => rfl
    b_L_pool_2 := bnd_of F28 fun _ _ _ _ _ _ us ws h1 h2 => match us, ws, h1, h2 with | [_, _], [], _, _ => rfl
    b_L_product_2 := bnd_of F33 fun _ _ _ _ _ _ us ws h1 h2 => match us, ws, h1, h2 with | [_, _], [], _, _ => rfl
    b_L_put_2 := bnd_of F48 fun _ _ _ _ _ _ us ws h1 h2 => match us, ws, h1, h2 with | [_, _], [], _, _ => rfl
    b_L_right_2 := bnd_of F49 fun _ _ _ _ _ _ us ws h1 h2 => match us, ws, h1, h2 with | [_, _], [], _, _ => rfl
    b_L_ringed_4 := bnd_of F39 fun _ _ _ _ _ _ us ws h1 h2 => match us, ws, h1, h2 with | [_, _, _, _], [], _, _ => rfl
    b_L_stop_2 := bnd_of F35 fun _ _ _ _ _ _ us ws h1 h2 => match us, ws, h1, h2 with | [_, _], [], _, _ => rfl
    b_L_suits_3 := bnd_of F42 fun _ _ _ _ _ _ us ws h1 h2 => match us, ws, h1, h2 with | [_, _, _], [], _, _ => rfl
    b_L_sum_2 := bnd_of F32 fun _ _ _ _ _ _ us ws h1 h2 => match us, ws, h1, h2 with | [_, _], [], _, _ => rfl
    b_L_take_2 := bnd_of F29 fun _ _ _ _ _ _ us ws h1 h2 => match us, ws, h1, h2 with | [_, _], [], _, _ => rfl
    b_L_twice_1 := bnd_of F50 fun _ _ _ _ _ _ us ws h1 h2 => match us, ws, h1, h2 with | [_], [], _, _ => rfl
    b_L_worth_2 := bnd_of F34 fun _ _ _ _ _ _ us ws h1 h2 => match us, ws, h1, h2 with | [_, _], [], _, _ => rfl
    b_p_comes_to_3 := bnd_of F13 fun _ _ _ _ _ _ us ws h1 h2 => match us, ws, h1, h2 with | [_, _, _], [], _, _ => rfl
    b_p_common_2 := bnd_of F1 fun _ _ _ _ _ _ us ws h1 h2 => match us, ws, h1, h2 with | [_, _], [], _, _ => rfl
    b_p_goes_round_2 := bnd_of F25 fun _ _ _ _ _ _ us ws h1 h2 => match us, ws, h1, h2 with | [_, _], [], _, _ => rfl
    b_p_grants_2 := bnd_of F14 fun _ _ _ _ _ _ us ws h1 h2 => match us, ws, h1, h2 with | [_, _], [], _, _ => rfl
    b_p_is_closed_2 := bnd_of F22 fun _ _ _ _ _ _ us ws h1 h2 => match us, ws, h1, h2 with | [_, _], [], _, _ => rfl
    b_p_is_fraction_1 := bnd_of F2 fun _ _ _ _ _ _ us ws h1 h2 => match us, ws, h1, h2 with | [_], [], _, _ => rfl
    b_p_is_letters_2 := bnd_of F15 fun _ _ _ _ _ _ us ws h1 h2 => match us, ws, h1, h2 with | [_, _], [], _, _ => rfl
    b_p_is_line_2 := bnd_of F9 fun _ _ _ _ _ _ us ws h1 h2 => match us, ws, h1, h2 with | [_, _], [], _, _ => rfl
    b_p_is_lists_3 := bnd_of F24 fun _ _ _ _ _ _ us ws h1 h2 => match us, ws, h1, h2 with | [_, _, _], [], _, _ => rfl
    b_p_is_name_1 := bnd_of F16 fun _ _ _ _ _ _ us ws h1 h2 => match us, ws, h1, h2 with | [_], [], _, _ => rfl
    b_p_is_numbers_2 := bnd_of F11 fun _ _ _ _ _ _ us ws h1 h2 => match us, ws, h1, h2 with | [_, _], [], _, _ => rfl
    b_p_is_one_of_2 := bnd_of F7 fun _ _ _ _ _ _ us ws h1 h2 => match us, ws, h1, h2 with | [_, _], [], _, _ => rfl
    b_p_is_ring_2 := bnd_of F23 fun _ _ _ _ _ _ us ws h1 h2 => match us, ws, h1, h2 with | [_, _], [], _, _ => rfl
    b_p_is_round_2 := bnd_of F26 fun _ _ _ _ _ _ us ws h1 h2 => match us, ws, h1, h2 with | [_, _], [], _, _ => rfl
    b_p_is_row_3 := bnd_of F19 fun _ _ _ _ _ _ us ws h1 h2 => match us, ws, h1, h2 with | [_, _, _], [], _, _ => rfl
    b_p_is_whole_1 := bnd_of F0 fun _ _ _ _ _ _ us ws h1 h2 => match us, ws, h1, h2 with | [_], [], _, _ => rfl
    b_p_is_wish_2 := bnd_of F10 fun _ _ _ _ _ _ us ws h1 h2 => match us, ws, h1, h2 with | [_, _], [], _, _ => rfl
    b_p_is_wishes_2 := bnd_of F18 fun _ _ _ _ _ _ us ws h1 h2 => match us, ws, h1, h2 with | [_, _], [], _, _ => rfl
    b_p_lets_round_2 := bnd_of F27 fun _ _ _ _ _ _ us ws h1 h2 => match us, ws, h1, h2 with | [_, _], [], _, _ => rfl
    b_p_look_at_1 := bnd_of F21 fun _ _ _ _ _ _ us ws h1 h2 => match us, ws, h1, h2 with | [_], [], _, _ => rfl
    b_p_look_at_many_1 := bnd_of F8 fun _ _ _ _ _ _ us ws h1 h2 => match us, ws, h1, h2 with | [_], [], _, _ => rfl
    b_p_look_at_names_3 := bnd_of F17 fun _ _ _ _ _ _ us ws h1 h2 => match us, ws, h1, h2 with | [_, _, _], [], _, _ => rfl
    b_p_look_at_rows_3 := bnd_of F20 fun _ _ _ _ _ _ us ws h1 h2 => match us, ws, h1, h2 with | [_, _, _], [], _, _ => rfl
    b_p_lowest_2 := bnd_of F3 fun _ _ _ _ _ _ us ws h1 h2 => match us, ws, h1, h2 with | [_, _], [], _, _ => rfl
    b_p_minus_2 := bnd_of F5 fun _ _ _ _ _ _ us ws h1 h2 => match us, ws, h1, h2 with | [_, _], [], _, _ => rfl
    b_p_plus_2 := bnd_of F4 fun _ _ _ _ _ _ us ws h1 h2 => match us, ws, h1, h2 with | [_, _], [], _, _ => rfl
    b_p_times_2 := bnd_of F6 fun _ _ _ _ _ _ us ws h1 h2 => match us, ws, h1, h2 with | [_, _], [], _, _ => rfl
    b_p_worth_2 := bnd_of F12 fun _ _ _ _ _ _ us ws h1 h2 => match us, ws, h1, h2 with | [_, _], [], _, _ => rfl }
  exact ⟨_, fun s v => .of_eq rfl, fun base _ _ => ok_L_law (base := base) T⟩
end Pf
open PySem PySem.W PyProof.Rows
set_option maxHeartbeats 0 in
theorem PySem.Challenge.cw_downweigh_k61_rounds_looked_at_holds : PySem.Challenge.rw_downweigh_k61_rounds_looked_at.Holds := by
  w_on; o_law; k_head; (case hw => w_witness2)
  k_fill
  refine DL.walkG (l := PySem.Challenge.rw_downweigh_k61_rounds_looked_at) (n := 63) (k := 11) (x := "_law_script") (fs := Pf.sp_L_law) rfl (by decide) rfl ⟨rfl, by decide, by decide⟩ (by rfl) (fun _ => by kernel_rfl) (fun w h Y => PySem.W.kIn_of Y) ?F (fun ns _ => ⟨ns, rfl, fun _ => rfl⟩)
  case F =>
    intro w mg fa h KX G hmg
    refine' Pf.all_mk KX G hmg ?a0 ?l0 ?c0 ?k0 ?a1 ?l1 ?c1 ?k1 ?a2 ?l2 ?c2 ?k2 ?a3 ?l3 ?c3 ?k3 ?a4 ?l4 ?c4 ?k4 ?a5 ?l5 ?c5 ?k5 ?a6 ?l6 ?c6 ?k6 ?a7 ?l7 ?c7 ?k7 ?a8 ?l8 ?c8 ?k8 ?a9 ?l9 ?c9 ?k9 ?a10 ?l10 ?c10 ?k10 ?a11 ?l11 ?c11 ?k11 ?a12 ?l12 ?c12 ?k12 ?a13 ?l13 ?c13 ?k13 ?a14 ?l14 ?c14 ?k14 ?a15 ?l15 ?c15 ?k15 ?a16 ?l16 ?c16 ?k16 ?a17 ?l17 ?c17 ?k17 ?a18 ?l18 ?c18 ?k18 ?a19 ?l19 ?c19 ?k19 ?a20 ?l20 ?c20 ?k20 ?a21 ?l21 ?c21 ?k21 ?a22 ?l22 ?c22 ?k22 ?a23 ?l23 ?c23 ?k23 ?a24 ?l24 ?c24 ?k24 ?a25 ?l25 ?c25 ?k25 ?a26 ?l26 ?c26 ?k26 ?a27 ?l27 ?c27 ?k27 ?a28 ?l28 ?c28 ?k28 ?a29 ?l29 ?c29 ?k29 ?a30 ?l30 ?c30 ?k30 ?a31 ?l31 ?c31 ?k31 ?a32 ?l32 ?c32 ?k32 ?a33 ?l33 ?c33 ?k33 ?a34 ?l34 ?c34 ?k34 ?a35 ?l35 ?c35 ?k35 ?a36 ?l36 ?c36 ?k36 ?a37 ?l37 ?c37 ?k37 ?a38 ?l38 ?c38 ?k38 ?a39 ?l39 ?c39 ?k39 ?a40 ?l40 ?c40 ?k40 ?a41 ?l41 ?c41 ?k41 ?a42 ?l42 ?c42 ?k42 ?a43 ?l43 ?c43 ?k43 ?a44 ?l44 ?c44 ?k44 ?a45 ?l45 ?c45 ?k45 ?a46 ?l46 ?c46 ?k46 ?a47 ?l47 ?c47 ?k47 ?a48 ?l48 ?c48 ?k48 ?a49 ?l49 ?c49 ?k49 ?a50 ?l50 ?c50 ?k50 ?a51 ?l51 ?c51 ?k51 ?z_abs ?z_all ?z_bool ?z_enumerate ?z_int ?z_isinstance ?z_len ?z_list ?z_max ?z_min ?z_range ?z_repr ?z_str ?z_tuple ?z_zip ?x_JUST ?x_LEAST ?x_LETTERS ?x_LONGEST_NAME ?x_MOST_IN_RING ?x_MOST_NAMES ?x_MOST_NUMBERS ?x_MOST_PLACES ?x_MOST_ROWS ?x_MOST_WISHES ?x_NOUGHT ?y_NOUGHT ?x_ONE ?y_ONE
    (case a0 => k_is); (case l0 => k_is); (case c0 => k_is); (case k0 => k_is); (case a1 => k_is); (case l1 => k_is); (case c1 => k_is); (case k1 => k_is); (case a2 => k_is); (case l2 => k_is); (case c2 => k_is); (case k2 => k_is); (case a3 => k_is); (case l3 => k_is); (case c3 => k_is); (case k3 => k_is); (case a4 => k_is); (case l4 => k_is); (case c4 => k_is); (case k4 => k_is); (case a5 => k_is); (case l5 => k_is); (case c5 => k_is); (case k5 => k_is); (case a6 => k_is); (case l6 => k_is); (case c6 => k_is); (case k6 => k_is); (case a7 => k_is); (case l7 => k_is); (case c7 => k_is); (case k7 => k_is); (case a8 => k_is); (case l8 => k_is); (case c8 => k_is); (case k8 => k_is); (case a9 => k_is); (case l9 => k_is); (case c9 => k_is); (case k9 => k_is); (case a10 => k_is); (case l10 => k_is); (case c10 => k_is); (case k10 => k_is); (case a11 => k_is); (case l11 => k_is); (case c11 => k_is); (case k11 => k_is); (case a12 => k_is); (case l12 => k_is); (case c12 => k_is); (case k12 => k_is); (case a13 => k_is); (case l13 => k_is); (case c13 => k_is); (case k13 => k_is); (case a14 => k_is); (case l14 => k_is); (case c14 => k_is); (case k14 => k_is); (case a15 => k_is); (case l15 => k_is); (case c15 => k_is); (case k15 => k_is); (case a16 => k_is); (case l16 => k_is); (case c16 => k_is); (case k16 => k_is); (case a17 => k_is); (case l17 => k_is); (case c17 => k_is); (case k17 => k_is); (case a18 => k_is); (case l18 => k_is); (case c18 => k_is); (case k18 => k_is); (case a19 => k_is); (case l19 => k_is); (case c19 => k_is); (case k19 => k_is); (case a20 => k_is); (case l20 => k_is); (case c20 => k_is); (case k20 => k_is); (case a21 => k_is); (case l21 => k_is); (case c21 => k_is); (case k21 => k_is); (case a22 => k_is); (case l22 => k_is); (case c22 => k_is); (case k22 => k_is); (case a23 => k_is); (case l23 => k_is); (case c23 => k_is); (case k23 => k_is); (case a24 => k_is); (case l24 => k_is); (case c24 => k_is); (case k24 => k_is); (case a25 => k_is); (case l25 => k_is); (case c25 => k_is); (case k25 => k_is); (case a26 => k_is); (case l26 => k_is); (case c26 => k_is); (case k26 => k_is); (case a27 => k_is); (case l27 => k_is); (case c27 => k_is); (case k27 => k_is); (case a28 => k_is); (case l28 => k_is); (case c28 => k_is); (case k28 => k_is); (case a29 => k_is); (case l29 => k_is); (case c29 => k_is); (case k29 => k_is); (case a30 => k_is); (case l30 => k_is); (case c30 => k_is); (case k30 => k_is); (case a31 => k_is); (case l31 => k_is); (case c31 => k_is); (case k31 => k_is); (case a32 => k_is); (case l32 => k_is); (case c32 => k_is); (case k32 => k_is); (case a33 => k_is); (case l33 => k_is); (case c33 => k_is); (case k33 => k_is); (case a34 => k_is); (case l34 => k_is); (case c34 => k_is); (case k34 => k_is); (case a35 => k_is); (case l35 => k_is); (case c35 => k_is); (case k35 => k_is); (case a36 => k_is); (case l36 => k_is); (case c36 => k_is); (case k36 => k_is); (case a37 => k_is); (case l37 => k_is); (case c37 => k_is); (case k37 => k_is); (case a38 => k_is); (case l38 => k_is); (case c38 => k_is); (case k38 => k_is); (case a39 => k_is); (case l39 => k_is); (case c39 => k_is); (case k39 => k_is); (case a40 => k_is); (case l40 => k_is); (case c40 => k_is); (case k40 => k_is); (case a41 => k_is); (case l41 => k_is); (case c41 => k_is); (case k41 => k_is); (case a42 => k_is); (case l42 => k_is); (case c42 => k_is); (case k42 => k_is); (case a43 => k_is); (case l43 => k_is); (case c43 => k_is); (case k43 => k_is); (case a44 => k_is); (case l44 => k_is); (case c44 => k_is); (case k44 => k_is); (case a45 => k_is); (case l45 => k_is); (case c45 => k_is); (case k45 => k_is); (case a46 => k_is); (case l46 => k_is); (case c46 => k_is); (case k46 => k_is); (case a47 => k_is); (case l47 => k_is); (case c47 => k_is); (case k47 => k_is); (case a48 => k_is); (case l48 => k_is); (case c48 => k_is); (case k48 => k_is); (case a49 => k_is); (case l49 => k_is); (case c49 => k_is); (case k49 => k_is); (case a50 => k_is); (case l50 => k_is); (case c50 => k_is); (case k50 => k_is); (case a51 => k_is); (case l51 => k_is); (case c51 => k_is); (case k51 => k_is); (case z_abs => k_is); (case z_all => k_is); (case z_bool => k_is); (case z_enumerate => k_is); (case z_int => k_is); (case z_isinstance => k_is); (case z_len => k_is); (case z_list => k_is); (case z_max => k_is); (case z_min => k_is); (case z_range => k_is); (case z_repr => k_is); (case z_str => k_is); (case z_tuple => k_is); (case z_zip => k_is); (case x_JUST => k_is); (case x_LEAST => k_is); (case x_LETTERS => k_is); (case x_LONGEST_NAME => k_is); (case x_MOST_IN_RING => k_is); (case x_MOST_NAMES => k_is); (case x_MOST_NUMBERS => k_is); (case x_MOST_PLACES => k_is); (case x_MOST_ROWS => k_is); (case x_MOST_WISHES => k_is); (case x_NOUGHT => k_is); (case y_NOUGHT => k_is); (case x_ONE => k_is); (case y_ONE => k_is)
