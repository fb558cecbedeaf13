import PyProof.Rows.All
import Wide.All
import OpenK.AllK
import Wide.FinOn
import HandS.ForMost
import HandS.Wide
import HandS.Walk
import HandS.Zip
import HandS.IsInst
import HandS.Defaults
import HandS.Style
import HandS.Deep
import HandS.FStrTup
import Flt.Len
import PyProof.ReprRoads
import PyProof.NoPylong
import HandS.ExcOwn
import HandS.ExcIs
import HandS.ExcValue
import HandS.WordsExc
import KE.KExcIs
import HandS.TupLe
import PyProof.P3In
import HandS.ExcInit
import KE.KExcSuper
import HandS.Star
import HandS.Small
import KE.DataFind
import HandS.StrMore
import HandS.FStr
import HandS.WideBits
import HandS.RevTup
import HandS.Rev
import HandS.SortKw
import KE.DataMinMax
import HandS.Codes
import KE.IntTextLaws
import HandS.TryOnly
import HandS.DictComp
import HandS.Conv
import HandS.SetFor
import HandS.Strs
import PyProof.Rows.ListMulR
import HandS.TupAny
import KE.KTryMore
import PyProof.ExcBaseAll.LookupError
import PyProof.ExcBaseAll.OverflowError
import PyProof.ExcBaseAll.ValueError
import PyProof.ExcBaseAll.ZeroDivisionError
import PySem.Challenge.RW_downweigh_k26_programs_side_by_side
set_option Elab.async false
set_option linter.all false
set_option maxRecDepth 100000
set_option maxHeartbeats 4000000
namespace DL
open PySem PySem.Spec PyProof.Rows L2
def dctK (kvs : List (Str × Int)) : List (Key × V) := kvs.map fun kv => (.inr kv.1, .int kv.2)
inductive D where
  | non
  | bl (b : Bool)
  | int (i : Int)
  | str (x : Str)
  | lst (xs : List D)
  | tup (xs : List D)
  | fro (xs : List D)
  | edic
  | dct (kvs : List (Str × Int))
  | opq (v : V)
  | exc (c : Str) (ns : List Str) (xs : List D)
def Sub (H H' : Hp) : Prop := ∀ b o, H b = some o → H' b = some o
theorem Sub.refl (H : Hp) : Sub H H := fun _ _ h => h
theorem Sub.trans {H H1 H2 : Hp} (a : Sub H H1) (b : Sub H1 H2) : Sub H H2 := fun c o h => b c o (a c o h)
theorem Sub.new {H : Hp} {p : Addr} {o : HO} (h : H p = none) : Sub H (upd H p o) := fun b u e => by
  rw [upd_ne (ne_of_none e h)]; exact e
theorem Sub.none {H H' : Hp} (s : Sub H H') {p : Addr} (h : H' p = none) : H p = none := by
  cases e : H p with
  | none => rfl
  | some o => rw [s p o e] at h; cases h
theorem Sub.sqL {K : PySem.W.Frag} {H H' : Hp} {a : Addr} {xs : List V} (e : Sub H H') (h : SqL K H a xs) : SqL K H' a xs := by
  rcases h with (h | ⟨o, h⟩) | h
  · exact .inl (.inl (e _ _ h))
  · exact .inl (.inr ⟨o, e _ _ h⟩)
  · exact .inr h
theorem Sub.sqT {K : PySem.W.Frag} {H H' : Hp} {a : Addr} {xs : List V} (e : Sub H H') (h : SqT K H a xs) : SqT K H' a xs := by
  rcases h with (h | ⟨o, h⟩) | h
  · exact .inl (.inl (e _ _ h))
  · exact .inl (.inr ⟨o, e _ _ h⟩)
  · exact .inr h
/-- an exception's object at a: its class, its dict -/
def ExH (cv : Value) (d : Option Addr) (a : Addr) : HO := .ext fun h => ∃ (oe : Obj) (fv : Array Value), h.get? a = some oe ∧ Zc cv d oe ∧ oe.data = .fields fv
/-- what its dict holds -/
def XD (F : Hp) (d : Option Addr) (ns : List Str) (vs : List V) : Prop := (d = none ∧ ns = [] ∧ vs = []) ∨ ∃ dx, d = some dx ∧ F dx = some (.xd (ns.zip vs)) ∧ ns.length = vs.length ∧ ns ≠ []
theorem XD.mono {F F' : Hp} {d : Option Addr} {ns : List Str} {vs : List V} (e : Sub F F') (h : XD F d ns vs) : XD F' d ns vs := by
  rcases h with h | ⟨dx, h1, h2, h3⟩
  · exact .inl h
  · exact .inr ⟨dx, h1, e _ _ h2, h3⟩
mutual
inductive DR (K : PySem.W.Frag) (F : Hp) : V → D → Prop
  | non : DR K F .non .non
  | bl (b : Bool) : DR K F (.bl b) (.bl b)
  | int (i : Int) : DR K F (.int i) (.int i)
  | str (x : Str) : DR K F (.str x) (.str x)
  | lst {a : Addr} {xs : List V} {ds : List D} : F a = some (.lst xs) → DRs K F xs ds → DR K F (.ref a) (.lst ds)
  | tup {a : Addr} {xs : List V} {ds : List D} : SqT K F a xs → DRs K F xs ds → DR K F (.ref a) (.tup ds)
  | fro {a : Addr} {xs : List V} {ds : List D} : SqL K F a xs → DRs K F xs ds → DR K F (.ref a) (.fro ds)
  | edic {a : Addr} : F a = some (.dK []) → DR K F (.ref a) .edic
  | dct {a : Addr} {kvs : List (Str × Int)} : F a = some (.dK (dctK kvs)) → DR K F (.ref a) (.dct kvs)
  | opq (v : V) : DR K F v (.opq v)
  | exc {a : Addr} {c : Str} {cv : Value} {d : Option Addr} {ns : List Str} {vs : List V} {ds : List D} : PySem.W.nsIn K mainGlobals c = some (some cv) → F a = some (ExH cv d a) → XD F d ns vs → DRs K F vs ds → DR K F (.ref a) (.exc c ns ds)
inductive DRs (K : PySem.W.Frag) (F : Hp) : List V → List D → Prop
  | nil : DRs K F [] []
  | cons {v : V} {vs : List V} {d : D} {ds : List D} : DR K F v d → DRs K F vs ds → DRs K F (v :: vs) (d :: ds)
end
section
variable {K : PySem.W.Frag} {F F' H H' : Hp} {v : V} {d : D} {vs : List V} {ds : List D}
mutual
theorem DR.mono (e : Sub F F') : ∀ {v : V} {d : D}, DR K F v d → DR K F' v d
  | _, _, .non => .non
  | _, _, .bl b => .bl b
  | _, _, .int i => .int i
  | _, _, .str x => .str x
  | _, _, .lst h hs => .lst (e _ _ h) (DRs.mono e hs)
  | _, _, .tup h hs => .tup (e.sqT h) (DRs.mono e hs)
  | _, _, .fro h hs => .fro (e.sqL h) (DRs.mono e hs)
  | _, _, .edic h => .edic (e _ _ h)
  | _, _, .dct h => .dct (e _ _ h)
  | _, _, .opq v => .opq v
  | _, _, .exc h0 h hx hs => .exc h0 (e _ _ h) (hx.mono e) (DRs.mono e hs)
theorem DRs.mono (e : Sub F F') : ∀ {vs : List V} {ds : List D}, DRs K F vs ds → DRs K F' vs ds
  | _, _, .nil => .nil
  | _, _, .cons h hs => .cons (DR.mono e h) (DRs.mono e hs)
end
theorem DRs.length : ∀ {vs : List V} {ds : List D}, DRs K F vs ds → vs.length = ds.length
  | _, _, .nil => rfl
  | _, _, .cons _ h => by simp [DRs.length h]
theorem DRs.get : ∀ {vs : List V} {ds : List D} {i : Nat} {d : D}, DRs K F vs ds → ds[i]? = some d → ∃ v, vs[i]? = some v ∧ DR K F v d
  | _, _, _, _, .nil, e => by simp at e
  | _, _, 0, _, .cons r _, e => by simp at e; subst e; exact ⟨_, rfl, r⟩
  | _, _, i + 1, d, .cons _ t, e => by
    obtain ⟨u, h1, h2⟩ := DRs.get (i := i) (d := d) t (by simpa using e)
    exact ⟨u, by simpa using h1, h2⟩
theorem DRs.getV : ∀ {vs : List V} {ds : List D} {i : Nat} {v : V}, DRs K F vs ds → vs[i]? = some v → ∃ d, ds[i]? = some d ∧ DR K F v d
  | _, _, _, _, .nil, e => by simp at e
  | _, _, 0, _, .cons r _, e => by simp at e; subst e; exact ⟨_, rfl, r⟩
  | _, _, i + 1, d, .cons _ t, e => by
    obtain ⟨u, h1, h2⟩ := DRs.getV (i := i) (v := d) t (by simpa using e)
    exact ⟨u, by simpa using h1, h2⟩
theorem DRs.append : ∀ {xs ys : List V} {ds es : List D}, DRs K F xs ds → DRs K F ys es → DRs K F (xs ++ ys) (ds ++ es)
  | _, _, _, _, .nil, s => s
  | _, _, _, _, .cons r t, s => .cons r (DRs.append t s)
theorem DRs.take : ∀ {xs : List V} {ds : List D} (n : Nat), DRs K F xs ds → DRs K F (xs.take n) (ds.take n)
  | _, _, 0, _ => by simp; exact .nil
  | _, _, _ + 1, .nil => .nil
  | _, _, n + 1, .cons r t => .cons r (DRs.take n t)
theorem DRs.drop : ∀ {xs : List V} {ds : List D} (n : Nat), DRs K F xs ds → DRs K F (xs.drop n) (ds.drop n)
  | _, _, 0, r => r
  | _, _, _ + 1, .nil => .nil
  | _, _, n + 1, .cons _ t => DRs.drop n t
theorem DRs.set {x : V} {u : D} (r : DR K F x u) : ∀ {xs : List V} {us : List D} (i : Nat), DRs K F xs us → DRs K F (xs.set i x) (us.set i u)
  | _, _, _, .nil => .nil
  | _, _, 0, .cons _ t => .cons r t
  | _, _, i + 1, .cons q t => .cons q (DRs.set r i t)
theorem DRs.ints : ∀ (ns : List Int), DRs K F (ns.map V.int) (ns.map D.int)
  | [] => .nil
  | n :: r => .cons (.int n) (DRs.ints r)
end
abbrev DS := List (Option D)
abbrev MS := List (Addr × List D)
/-- address 1 (the modules) is tracked from the start: nothing of ours lies there -/
def OneR (K : PySem.W.Frag) (F : Hp) : Prop := K.lookup sysModules = none ∧ ∃ o φ, F sysModules = some (.frz o (.ext φ))
theorem OneR.mono {K : PySem.W.Frag} {F F' : Hp} (h : OneR K F) (s : Sub F F') : OneR K F' := let ⟨a, o, φ, b⟩ := h; ⟨a, o, φ, s _ _ b⟩
structure Rel (K : PySem.W.Frag) (F H : Hp) (ms : MS) : Prop where
  sub : Sub F H
  mu : ∀ p ∈ ms, F p.1 = none ∧ ∃ vs, H p.1 = some (.lst vs) ∧ DRs K F vs p.2
  nd : (ms.map (·.1)).Nodup
  one : OneR K F
inductive Sl (K : PySem.W.Frag) (F : Hp) : L2.St → DS → Prop
  | nil : Sl K F [] []
  | sm {v : V} {d : D} {σ : L2.St} {ds : DS} : DR K F v d → Sl K F σ ds → Sl K F (some v :: σ) (some d :: ds)
  | nn {o : Option V} {σ : L2.St} {ds : DS} : Sl K F σ ds → Sl K F (o :: σ) (none :: ds)
def slot : DS → Nat → Option D
  | [], _ => none
  | o :: _, 0 => o
  | _ :: r, n + 1 => slot r n
def setSlot : DS → Nat → D → DS
  | [], _, _ => []
  | _ :: r, 0, d => some d :: r
  | o :: r, n + 1, d => o :: setSlot r n d
section
variable {K : PySem.W.Frag} {F F' H H' : Hp} {ms : MS} {σ : L2.St} {ds : DS}
theorem Sl.mono (e : Sub F F') : ∀ {σ : L2.St} {ds : DS}, Sl K F σ ds → Sl K F' σ ds
  | _, _, .nil => .nil
  | _, _, .sm h r => .sm (h.mono e) (Sl.mono e r)
  | _, _, .nn r => .nn (Sl.mono e r)
theorem Sl.get : ∀ {σ : L2.St} {ds : DS} {i : Nat} {d : D}, Sl K F σ ds → slot ds i = some d → ∃ v, σ[i]? = some (some v) ∧ DR K F v d
  | _, _, i, _, .nil, e => by cases i <;> cases e
  | _, _, 0, _, .sm h r, e => by cases e; exact ⟨_, rfl, h⟩
  | _, _, 0, _, .nn r, e => by cases e
  | _, _, i + 1, _, .sm h r, e => Sl.get (i := i) r e
  | _, _, i + 1, _, .nn r, e => Sl.get (i := i) r e
theorem Sl.set {v : V} {d : D} (h : DR K F v d) : ∀ {σ : L2.St} {ds : DS} (i : Nat), Sl K F σ ds → Sl K F (σ.set i (some v)) (setSlot ds i d)
  | _, _, i, .nil => by cases i <;> exact .nil
  | _, _, 0, .sm _ r => .sm h r
  | _, _, 0, .nn r => .sm h r
  | _, _, i + 1, .sm q r => .sm q (Sl.set h i r)
  | _, _, i + 1, .nn r => .nn (Sl.set h i r)
theorem Sl.len : ∀ {σ : L2.St} {ds : DS}, Sl K F σ ds → σ.length = ds.length
  | _, _, .nil => rfl
  | _, _, .sm _ r => by simp [Sl.len r]
  | _, _, .nn r => by simp [Sl.len r]
theorem Rel.new {p : Addr} {o : HO} (R : Rel K F H ms) (hp : H p = none) : Rel K (upd F p o) (upd H p o) ms := by
  refine ⟨fun b u e => ?_, fun q hq => ?_, R.nd, R.one.mono (Sub.new (R.sub.none hp))⟩
  · by_cases hb : b = p
    · subst hb; rw [upd_same] at e ⊢; exact e
    · rw [upd_ne hb] at e ⊢; exact R.sub b u e
  · obtain ⟨h1, vs, h2, h3⟩ := R.mu q hq
    have hne : q.1 ≠ p := ne_of_none h2 hp
    exact ⟨by rw [upd_ne hne]; exact h1, vs, by rw [upd_ne hne]; exact h2, h3.mono (Sub.new (R.sub.none hp))⟩
theorem Rel.ext (R : Rel K F H ms) (s : Sub H H') : Rel K F H' ms :=
  ⟨R.sub.trans s, fun q hq => let ⟨h1, vs, h2, h3⟩ := R.mu q hq; ⟨h1, vs, s _ _ h2, h3⟩, R.nd, R.one⟩
theorem Rel.lay {p : Addr} {o : HO} (R : Rel K F H ms) (hp : H p = none) : Rel K F (upd H p o) ms := R.ext (Sub.new hp)
end
/-- one step: what was known stays, what is not ours is left as it was -/
structure Stp (F H : Hp) (ms : MS) (F' H' : Hp) (ms' : MS) : Prop where
  sub : Sub F F'
  keep : ∀ a o, H a = some o → F a = none → (∀ p ∈ ms, p.1 ≠ a) → H' a = some o
  newF : ∀ a o, F' a = some o → F a = some o ∨ H a = none ∨ ∃ p ∈ ms, p.1 = a
  newM : ∀ p ∈ ms', (∃ q ∈ ms, q.1 = p.1) ∨ H p.1 = none ∨ ∃ o, F p.1 = some o
section
variable {K : PySem.W.Frag} {F F1 F2 H H1 H2 : Hp} {ms m1 m2 : MS}
theorem Stp.refl : Stp F H ms F H ms := ⟨Sub.refl F, fun _ _ h _ _ => h, fun _ _ h => .inl h, fun p hp => .inl ⟨p, hp, rfl⟩⟩
theorem Stp.trans (a : Stp F H ms F1 H1 m1) (b : Stp F1 H1 m1 F2 H2 m2) : Stp F H ms F2 H2 m2 := by
  have kp : ∀ c o, H c = some o → F c = none → (∀ p ∈ ms, p.1 ≠ c) → H1 c = some o ∧ F1 c = none ∧ ∀ p ∈ m1, p.1 ≠ c := fun c o h1 h2 h3 => by
    refine ⟨a.keep c o h1 h2 h3, ?_, fun p hp e => ?_⟩
    · cases e : F1 c with
      | none => rfl
      | some u =>
        rcases a.newF c u e with z | z | ⟨p, hp, z⟩
        · rw [h2] at z; cases z
        · rw [h1] at z; cases z
        · exact absurd z (h3 p hp)
    · rcases a.newM p hp with ⟨q, hq, z⟩ | z | ⟨u, z⟩
      · exact h3 q hq (z.trans e)
      · rw [e, h1] at z; cases z
      · rw [e, h2] at z; cases z
  have bk : ∀ c, H1 c = none → F c = none → H c = none ∨ ∃ p ∈ ms, p.1 = c := fun c h1 h2 => by
    cases e : H c with
    | none => exact .inl rfl
    | some u =>
      by_cases hq : ∃ p ∈ ms, p.1 = c
      · exact .inr hq
      · have z := a.keep c u e h2 fun p hp z => hq ⟨p, hp, z⟩
        rw [h1] at z; cases z
  refine ⟨a.sub.trans b.sub, fun c o h1 h2 h3 => ?_, fun c o h => ?_, fun p hp => ?_⟩
  · obtain ⟨x, y, z⟩ := kp c o h1 h2 h3
    exact b.keep c o x y z
  · cases ef : F c with
    | some u =>
      have z := b.sub c u (a.sub c u ef)
      rw [h] at z
      exact .inl z.symm
    | none =>
      refine .inr ?_
      rcases b.newF c o h with z | z | ⟨p, hp, z⟩
      · rcases a.newF c o z with y | y | y
        · rw [ef] at y; cases y
        · exact .inl y
        · exact .inr y
      · exact bk c z ef
      · rcases a.newM p hp with ⟨q, hq, y⟩ | y | ⟨u, y⟩
        · exact .inr ⟨q, hq, y.trans z⟩
        · exact .inl (z ▸ y)
        · rw [z, ef] at y; cases y
  · cases ef : F p.1 with
    | some u => exact .inr (.inr ⟨u, rfl⟩)
    | none =>
      rcases b.newM p hp with ⟨q, hq, z⟩ | z | ⟨u, z⟩
      · rcases a.newM q hq with ⟨q2, hq2, z2⟩ | z2 | ⟨u, z2⟩
        · exact .inl ⟨q2, hq2, z2.trans z⟩
        · exact .inr (.inl (z ▸ z2))
        · rw [z, ef] at z2; cases z2
      · rcases bk p.1 z ef with y | y
        · exact .inr (.inl y)
        · exact .inl y
      · rcases a.newF p.1 u z with y | y | y
        · rw [ef] at y; cases y
        · exact .inr (.inl y)
        · exact .inl y
theorem Stp.new {p : Addr} {o : HO} (R : Rel K F H ms) (hp : H p = none) : Stp F H ms (upd F p o) (upd H p o) ms := by
  refine ⟨Sub.new (R.sub.none hp), fun a u h1 h2 h3 => ?_, fun a u h => ?_, fun q hq => .inl ⟨q, hq, rfl⟩⟩
  · rw [upd_ne (ne_of_none h1 hp)]; exact h1
  · by_cases e : a = p
    · subst e; exact .inr (.inl hp)
    · rw [upd_ne e] at h; exact .inl h
end
abbrev DE := DS → MS → (D → MS → Prop) → Prop
abbrev DA := DS → MS → (List D → MS → Prop) → Prop
abbrev DT := DS → MS → (Bool → MS → Prop) → Prop
def lift (K : PySem.W.Frag) (de : DE) : TE := fun σ H Q => ∃ F ds ms P, Rel K F H ms ∧ Sl K F σ ds ∧ de ds ms P ∧
  ∀ d ms' v F' H', P d ms' → Rel K F' H' ms' → Stp F H ms F' H' ms' → DR K F' v d → Q v H'
def liftA (K : PySem.W.Frag) (de : DA) : TA := fun σ H Q => ∃ F ds ms P, Rel K F H ms ∧ Sl K F σ ds ∧ de ds ms P ∧
  ∀ xs ms' vs F' H', P xs ms' → Rel K F' H' ms' → Stp F H ms F' H' ms' → DRs K F' vs xs → Q vs H'
def liftT (K : PySem.W.Frag) (de : DT) : TT := fun σ H Q => ∃ F ds ms P, Rel K F H ms ∧ Sl K F σ ds ∧ de ds ms P ∧
  ∀ b ms' F' H', P b ms' → Rel K F' H' ms' → Stp F H ms F' H' ms' → Q b H'
abbrev PD (X : Cx) (e : Expr) (de : DE) : Prop := PE X e (lift X.K de)
abbrev PDA (X : Cx) (es : List Expr) (de : DA) : Prop := PA X es (liftA X.K de)
abbrev PDT (X : Cx) (e : Expr) (de : DT) : Prop := PT X e (liftT X.K de)
theorem peImp {X : Cx} {e : Expr} {t t' : TE} (h : PE X e t) (hi : ∀ σ H Q, t' σ H Q → t σ H Q) : PE X e t' := ⟨fun pins s σ H Q I hq => h.run pins s σ H Q I (hi σ H Q hq)⟩
theorem paImp {X : Cx} {e : List Expr} {t t' : TA} (h : PA X e t) (hi : ∀ σ H Q, t' σ H Q → t σ H Q) : PA X e t' := ⟨fun pos pins s σ H Q I hq => h.run pos pins s σ H Q I (hi σ H Q hq)⟩
theorem ptImp {X : Cx} {e : Expr} {t t' : TT} (h : PT X e t) (hi : ∀ σ H Q, t' σ H Q → t σ H Q) : PT X e t' := ⟨fun pins s σ H Q I hq => h.run pins s σ H Q I (hi σ H Q hq)⟩
theorem pwImp {X : Cx} {e : Expr} {t t' : TT} (h : PW X e t) (hi : ∀ σ H Q, t' σ H Q → t σ H Q) : PW X e t' := ⟨fun wh pins s σ H Q I hq => h.run wh pins s σ H Q I (hi σ H Q hq)⟩
theorem psImp {X : Cx} {e : Stmt} {t t' : TS} (h : PS X e t) (hi : ∀ D σ H, t' D σ H → t D σ H) : PS X e t' := ⟨fun pins s σ H D I hq => h.run pins s σ H D I (hi D σ H hq)⟩
theorem pssImp {X : Cx} {e : List Stmt} {t t' : TS} (h : PSs X e t) (hi : ∀ D σ H, t' D σ H → t D σ H) : PSs X e t' := ⟨fun pins s σ H D I hq => h.run pins s σ H D I (hi D σ H hq)⟩
def dC (d : D) : DE := fun _ ms P => P d ms
def dVar (i : Nat) : DE := fun ds ms P => match slot ds i with
  | some d => P d ms
  | none => False
section
variable {X : Cx} {K : PySem.W.Frag}
theorem lift_c {v : V} {d : D} (h : ∀ F, DR K F v d) : ∀ σ H Q, lift K (dC d) σ H Q → tC v σ H Q := fun σ H Q ⟨F, ds, ms, P, R, S, h1, h2⟩ =>
  h2 d ms v F H h1 R Stp.refl (h F)
theorem pd_int {i j pos} : PD X (.Constant (.int i) j pos) (dC (.int i)) := peImp pe_int (lift_c fun _ => .int i)
theorem pd_bl {b j pos} : PD X (.Constant (.bool b) j pos) (dC (.bl b)) := peImp pe_bl (lift_c fun _ => .bl b)
theorem pd_non {j pos} : PD X (.Constant .none j pos) (dC .non) := peImp pe_non (lift_c fun _ => .non)
theorem pd_str {x j pos} : PD X (.Constant (.str x) j pos) (dC (.str x)) := peImp pe_str (lift_c fun _ => .str x)
theorem pd_glob {x : Str} {v : V} {d : D} {u : Value} {pos : Pos} (hg : Gl X x) (hm : X.mg x = some u) (r : RelV v u) (h : ∀ F, DR X.K F v d) (hd : (x == ("__debug__" : Str)) = false := by decide) : PD X (.Name x pos) (dC d) :=
  peImp (pe_glob hg hm r hd) (lift_c h)
theorem pd_var (i : Nat) {x : Str} {pos : Pos} (hN : X.N[i]? = some x := by rfl) (hv : Vis X.env.scope x := by first | exact Or.inl rfl | exact Or.inr (Or.inl rfl) | exact Or.inr (Or.inr rfl)) (hd : (x == ("__debug__" : Str)) = false := by decide)
    (hcd : (x == ("__classdict__" : Str)) = false := by decide) : PD X (.Name x pos) (dVar i) :=
  peImp (pe_var hN hv hd hcd) fun σ H Q ⟨F, ds, ms, P, R, S, h1, h2⟩ => by
    unfold dVar at h1
    cases e : slot ds i with
    | none => rw [e] at h1; exact h1.elim
    | some d =>
      rw [e] at h1
      obtain ⟨v, hv, hr⟩ := S.get e
      exact ⟨v, hv, h2 d ms v F H h1 R Stp.refl hr⟩
end
abbrev OF := D → D → MS → (D → MS → Prop) → Prop
def OpD (K : PySem.W.Frag) (r : R2) (f : OF) : Prop := ∀ (F H : Hp) (ms : MS) (x y : V) (dx dy : D) (P : D → MS → Prop) (Q : VK), Rel K F H ms → DR K F x dx → DR K F y dy → f dx dy ms P →
  (∀ d ms' v F' H', P d ms' → Rel K F' H' ms' → Stp F H ms F' H' ms' → DR K F' v d → Q v H') → r x y H Q
def dOp (f : OF) (da db : DE) : DE := fun ds ms P => da ds ms fun x m1 => db ds m1 fun y m2 => f x y m2 P
section
variable {X : Cx} {K : PySem.W.Frag} {da db dc : DE} {a b c : Expr} {pos : Pos}
theorem lift_op {r : R2} {f : OF} (hf : OpD K r f) : ∀ σ H Q, lift K (dOp f da db) σ H Q → tOp r (lift K da) (lift K db) σ H Q := fun σ H Q ⟨F, ds, ms, P, R, S, h1, h2⟩ =>
  ⟨F, ds, ms, _, R, S, h1, fun dx m1 x F1 H1 p1 R1 s1 r1 => ⟨F1, ds, m1, _, R1, S.mono s1.sub, p1, fun dy m2 y F2 H2 p2 R2 s2 r2 =>
    hf F2 H2 m2 x y dx dy P Q R2 (r1.mono s2.sub) r2 p2 fun d m3 v F3 H3 p3 R3 s3 r3 => h2 d m3 v F3 H3 p3 R3 (s1.trans (s2.trans s3)) r3⟩⟩
theorem pd_op {op : Operator} {r : R2} {f : OF} (ho : OpR X (binaryOp op) r) (hf : OpD X.K r f) (ha : PD X a da) (hb : PD X b db) : PD X (.BinOp a op b pos) (dOp f da db) :=
  peImp (pe_op ho ha hb) (lift_op hf)
theorem pd_cmp {op : CmpOp} {r : R2} {f : OF} (ho : OpR X (compareOp op) r) (hf : OpD X.K r f) (ha : PD X a da) (hb : PD X b db) (hm : behindInMarks op b = false := by first | exact nomark _ | rfl) : PD X (.Compare a [op] [b] pos) (dOp f da db) :=
  peImp (pe_cmpR ho ha hb hm) (lift_op hf)
theorem pd_ix {r : R2} {f : OF} (hr : IxR X r) (hf : OpD X.K r f) (ha : PD X a da) (hb : PD X b db) (hs : PlainIx b := by exact fun _ _ => rfl) : PD X (.Subscript a b pos) (dOp f da db) :=
  peImp (pe_ix hr ha hb hs) (lift_op hf)
end
/-- ints in, a value out, under a condition -/
def fI (C : Int → Int → Prop) (g : Int → Int → D) : OF := fun x y ms P => match x, y with
  | .int i, .int j => C i j ∧ P (g i j) ms
  | _, _ => False
theorem opd_I {K : PySem.W.Frag} {C C' : Int → Int → Prop} {g : Int → Int → V} {g' : Int → Int → D} (hC : ∀ i j, C i j → C' i j) (hg : ∀ F i j, DR K F (g i j) (g' i j)) : OpD K (rI C' g) (fI C g') := by
  intro F H ms x y dx dy P Q R rx ry h q
  cases rx <;> cases ry <;> try exact h.elim
  exact ⟨_, _, rfl, rfl, hC _ _ h.1, q _ _ _ F H h.2 R Stp.refl (hg F _ _)⟩
theorem opd_I0 {K : PySem.W.Frag} {g : Int → Int → V} {g' : Int → Int → D} (hg : ∀ F i j, DR K F (g i j) (g' i j)) : OpD K (rI0 g) (fI (fun _ _ => True) g') := by
  intro F H ms x y dx dy P Q R rx ry h q
  cases rx <;> cases ry <;> try exact h.elim
  exact ⟨_, _, rfl, rfl, q _ _ _ F H h.2 R Stp.refl (hg F _ _)⟩
end DL
namespace DL
open PySem PySem.Spec PyProof.Rows L2
def aNil : DA := fun _ ms P => P [] ms
def aCons (de : DE) (da : DA) : DA := fun ds ms P => de ds ms fun x m1 => da ds m1 fun xs m2 => P (x :: xs) m2
section
variable {X : Cx} {K : PySem.W.Frag} {da db dc : DE} {a b c e : Expr} {es : List Expr} {pos : Pos} {aa : DA}
theorem pda_nil : PDA X [] aNil := paImp pa_nil fun σ H Q ⟨F, ds, ms, P, R, S, h1, h2⟩ => h2 [] ms [] F H h1 R Stp.refl .nil
theorem pda_cons (ha : PD X e da) (hr : PDA X es aa) (hs : starEach (e :: es) X.env = (false, eval e X.env) :: starEach es X.env := by rfl) : PDA X (e :: es) (aCons da aa) :=
  paImp (pa_cons ha hr hs) fun σ H Q ⟨F, ds, ms, P, R, S, h1, h2⟩ =>
    ⟨F, ds, ms, _, R, S, h1, fun dx m1 x F1 H1 p1 R1 s1 r1 => ⟨F1, ds, m1, _, R1, S.mono s1.sub, p1, fun xs m2 vs F2 H2 p2 R2 s2 r2 =>
      h2 _ m2 (x :: vs) F2 H2 p2 R2 (s1.trans s2) (.cons (r1.mono s2.sub) r2)⟩⟩
def dTup (da : DA) : DE := fun ds ms P => da ds ms fun xs m => xs.length ≤ sizeLine ∧ P (.tup xs) m
def dLst (da : DA) : DE := fun ds ms P => da ds ms fun xs m => xs.length ≤ sizeLine ∧ P (.lst xs) m
/-- a list that is to be changed -/
def dLstM (da : DA) : DE := fun ds ms P => da ds ms fun xs m => xs.length ≤ sizeLine ∧ ∀ p, (∀ q ∈ m, q.1 ≠ p) → P (.opq (.ref p)) ((p, xs) :: m)
theorem Rel.newTup {F H : Hp} {ms : MS} {p : Addr} {vs : List V} {xs : List D} (R : Rel K F H ms) (hp : H p = none) (r : DRs K F vs xs) : DR K (upd F p (.tup vs)) (.ref p) (.tup xs) :=
  .tup (SqT.of upd_same) (r.mono (Sub.new (R.sub.none hp)))
theorem Rel.newLst {F H : Hp} {ms : MS} {p : Addr} {vs : List V} {xs : List D} (R : Rel K F H ms) (hp : H p = none) (r : DRs K F vs xs) : DR K (upd F p (.lst vs)) (.ref p) (.lst xs) :=
  .lst upd_same (r.mono (Sub.new (R.sub.none hp)))
theorem Rel.newMut {F H : Hp} {ms : MS} {p : Addr} {vs : List V} {xs : List D} (R : Rel K F H ms) (hp : H p = none) (r : DRs K F vs xs) : (∀ q ∈ ms, q.1 ≠ p) ∧ Rel K F (upd H p (.lst vs)) ((p, xs) :: ms) := by
  have hne : ∀ q ∈ ms, q.1 ≠ p := fun q hq => by
    obtain ⟨h1, ws, h2, h3⟩ := R.mu q hq
    exact ne_of_none h2 hp
  refine ⟨hne, R.sub.trans (Sub.new hp), fun q hq => ?_, ?_, R.one⟩
  · rcases List.mem_cons.mp hq with rfl | hq
    · exact ⟨R.sub.none hp, vs, upd_same, r⟩
    · obtain ⟨h1, ws, h2, h3⟩ := R.mu q hq
      exact ⟨h1, ws, by rw [upd_ne (hne q hq)]; exact h2, h3⟩
  · rw [List.map_cons, List.nodup_cons]
    refine ⟨fun hm => ?_, R.nd⟩
    obtain ⟨q, hq, e⟩ := List.mem_map.mp hm
    exact hne q hq e
theorem Stp.newMut {F H : Hp} {ms : MS} {p : Addr} {vs : List V} {xs : List D} (hp : H p = none) : Stp F H ms F (upd H p (.lst vs)) ((p, xs) :: ms) :=
  ⟨Sub.refl F, fun a u h1 _ _ => by rw [upd_ne (ne_of_none h1 hp)]; exact h1, fun _ _ h => .inl h, fun q hq => by
    rcases List.mem_cons.mp hq with rfl | hq
    · exact .inr (.inl hp)
    · exact .inl ⟨q, hq, rfl⟩⟩
theorem pd_tup {x1} (h : PDA X es aa) : PD X (.Tuple es x1 pos) (dTup aa) := peImp (pe_tup h) fun σ H Q ⟨F, ds, ms, P, R, S, h1, h2⟩ =>
  ⟨F, ds, ms, _, R, S, h1, fun xs m vs F1 H1 p1 R1 s1 r1 => ⟨by rw [r1.length]; exact p1.1, fun p hp =>
    h2 _ m _ (upd F1 p (.tup vs)) _ p1.2 (R1.new hp) (s1.trans (Stp.new R1 hp)) (R1.newTup hp r1)⟩⟩
theorem pd_lst (h : PDA X es aa) : PD X (.List es pos) (dLst aa) := peImp (pe_lst h) fun σ H Q ⟨F, ds, ms, P, R, S, h1, h2⟩ =>
  ⟨F, ds, ms, _, R, S, h1, fun xs m vs F1 H1 p1 R1 s1 r1 => ⟨by rw [r1.length]; exact p1.1, fun p hp =>
    h2 _ m _ (upd F1 p (.lst vs)) _ p1.2 (R1.new hp) (s1.trans (Stp.new R1 hp)) (R1.newLst hp r1)⟩⟩
theorem pd_lstM (h : PDA X es aa) : PD X (.List es pos) (dLstM aa) := peImp (pe_lst h) fun σ H Q ⟨F, ds, ms, P, R, S, h1, h2⟩ =>
  ⟨F, ds, ms, _, R, S, h1, fun xs m vs F1 H1 p1 R1 s1 r1 => ⟨by rw [r1.length]; exact p1.1, fun p hp =>
    h2 _ ((p, xs) :: m) _ F1 _ (p1.2 p (R1.newMut hp r1).1) (R1.newMut hp r1).2 (s1.trans (Stp.newMut hp)) (.opq _)⟩⟩
def dTest (da : DE) : DT := fun ds ms P => da ds ms fun x m => match x with
  | .bl b => P b m
  | _ => False
theorem pdt_val (h : PD X e da) (he : ∀ whole, isTrue e X.env whole = (do let v ← whole; standAt e.pos; holding [v] (truthy v)) := by intro _; rfl) : PDT X e (dTest da) :=
  ptImp (pt_val h he) fun σ H Q ⟨F, ds, ms, P, R, S, h1, h2⟩ =>
    ⟨F, ds, ms, _, R, S, h1, fun d m v F1 H1 p1 R1 s1 r1 => by
      cases d with
      | bl b => cases r1; exact ⟨b, rfl, h2 b m F1 H1 p1 R1 s1⟩
      | _ => exact p1.elim⟩
theorem pdt_cmp {op : CmpOp} {r : R2} {f : OF} (ho : OpR X (compareOp op) r) (hf : OpD X.K r f) (ha : PD X a da) (hb : PD X b db) (hm : behindInMarks op b = false := by first | exact nomark _ | rfl) : PDT X (.Compare a [op] [b] pos) (dTest (dOp f da db)) :=
  ptImp (pt_cmpR ho ha hb hm) fun σ H Q ⟨F, ds, ms, P, R, S, h1, h2⟩ =>
    lift_op hf σ H _ ⟨F, ds, ms, _, R, S, h1, fun d m v F1 H1 p1 R1 s1 r1 => by
      cases d with
      | bl b => cases r1; exact ⟨b, rfl, h2 b m F1 H1 p1 R1 s1⟩
      | _ => exact p1.elim⟩
/-- a value's truth -/
def truD : D → MS → (Bool → Prop) → Prop := fun x ms P => match x with
  | .non => P false
  | .bl b => P b
  | .int i => P (i != 0)
  | .str y => y.length ≤ sizeLine ∧ P ((y.length : Int) != 0)
  | .lst xs => P (!xs.isEmpty)
  | .fro xs => P (!xs.isEmpty)
  | .tup xs => P (!xs.isEmpty)
  | _ => False
def dTru (da : DE) : DT := fun ds ms P => da ds ms fun x m => truD x m fun b => P b m
def dNot (dt : DT) : DT := fun ds ms P => dt ds ms fun b m => P (!b) m
def dAnd (dt du : DT) : DT := fun ds ms P => dt ds ms fun b m => if b = true then du ds m P else P false m
def dOr (dt du : DT) : DT := fun ds ms P => dt ds ms fun b m => if b = true then P true m else du ds m P
variable {dt du : DT} {rest : List Expr}
theorem pdt_not (h : PDT X e dt) : PDT X (.UnaryOp .Not e pos) (dNot dt) := ptImp (pt_not h) fun σ H Q ⟨F, ds, ms, P, R, S, h1, h2⟩ =>
  ⟨F, ds, ms, _, R, S, h1, fun b m F1 H1 p1 R1 s1 => h2 _ m F1 H1 p1 R1 s1⟩
abbrev PDW (X : Cx) (e : Expr) (dt : DT) : Prop := PW X e (liftT X.K dt)
theorem pdw_and1 (h : PDT X e dt) : PDW X (.BoolOp .And [e] pos) dt := pw_and1 h
theorem pdw_or1 (h : PDT X e dt) : PDW X (.BoolOp .Or [e] pos) dt := pw_or1 h
theorem pdw_and (h : PDT X a dt) (hb : PDW X (.BoolOp .And (b :: rest) pos) du) : PDW X (.BoolOp .And (a :: b :: rest) pos) (dAnd dt du) := pwImp (pw_and h hb) fun σ H Q ⟨F, ds, ms, P, R, S, h1, h2⟩ =>
  ⟨F, ds, ms, _, R, S, h1, fun k m F1 H1 p1 R1 s1 => by
    cases k with
    | true =>
      rw [if_pos rfl] at p1 ⊢
      exact ⟨F1, ds, m, P, R1, S.mono s1.sub, p1, fun k2 m2 F2 H2 p2 R2 s2 => h2 k2 m2 F2 H2 p2 R2 (s1.trans s2)⟩
    | false =>
      rw [if_neg Bool.false_ne_true] at p1 ⊢
      exact h2 _ m F1 H1 p1 R1 s1⟩
theorem pdw_or (h : PDT X a dt) (hb : PDW X (.BoolOp .Or (b :: rest) pos) du) : PDW X (.BoolOp .Or (a :: b :: rest) pos) (dOr dt du) := pwImp (pw_or h hb) fun σ H Q ⟨F, ds, ms, P, R, S, h1, h2⟩ =>
  ⟨F, ds, ms, _, R, S, h1, fun k m F1 H1 p1 R1 s1 => by
    cases k with
    | false =>
      rw [if_neg Bool.false_ne_true] at p1 ⊢
      exact ⟨F1, ds, m, P, R1, S.mono s1.sub, p1, fun k2 m2 F2 H2 p2 R2 s2 => h2 k2 m2 F2 H2 p2 R2 (s1.trans s2)⟩
    | true =>
      rw [if_pos rfl] at p1 ⊢
      exact h2 _ m F1 H1 p1 R1 s1⟩
theorem pdt_w (h : PDW X e dt) : PDT X e dt := h.pt
def dAndV (da db : DE) : DE := fun ds ms P => da ds ms fun x m => match x with
  | .bl b => if b = true then db ds m P else P (.bl false) m
  | _ => False
def dOrV (da db : DE) : DE := fun ds ms P => da ds ms fun x m => match x with
  | .bl b => if b = true then P (.bl true) m else db ds m P
  | _ => False
def dNotV (da : DE) : DE := fun ds ms P => da ds ms fun x m => match x with
  | .bl b => P (.bl (!b)) m
  | _ => False
theorem pd_one {op} (h : PD X e da) : PD X (.BoolOp op [e] pos) da := pe_one h
theorem pd_and (h : PD X a da) (hb : PD X (.BoolOp .And (b :: rest) pos) db) : PD X (.BoolOp .And (a :: b :: rest) pos) (dAndV da db) := peImp (pe_and h hb) fun σ H Q ⟨F, ds, ms, P, R, S, h1, h2⟩ =>
  ⟨F, ds, ms, _, R, S, h1, fun k m v F1 H1 p1 R1 s1 r1 => by
    cases k with
    | bl k =>
      cases r1
      refine ⟨k, rfl, ?_⟩
      cases k with
      | true =>
        simp only [if_true] at p1 ⊢
        exact ⟨F1, ds, m, P, R1, S.mono s1.sub, p1, fun k2 m2 v2 F2 H2 p2 R2 s2 r2 => h2 k2 m2 v2 F2 H2 p2 R2 (s1.trans s2) r2⟩
      | false =>
        simp only [if_neg Bool.false_ne_true] at p1 ⊢
        exact h2 _ m _ F1 H1 p1 R1 s1 (.bl false)
    | _ => exact p1.elim⟩
theorem pd_not (h : PD X e da) : PD X (.UnaryOp .Not e pos) (dNotV da) := peImp (pe_not h) fun σ H Q ⟨F, ds, ms, P, R, S, h1, h2⟩ =>
  ⟨F, ds, ms, _, R, S, h1, fun k m v F1 H1 p1 R1 s1 r1 => by
    cases k with
    | bl k => cases r1; exact ⟨k, rfl, h2 _ m _ F1 H1 p1 R1 s1 (.bl _)⟩
    | _ => exact p1.elim⟩
def dIf (dt : DT) (da db : DE) : DE := fun ds ms P => dt ds ms fun b m => if b = true then da ds m P else db ds m P
theorem pd_ifExp (hc : PDT X c dt) (ha : PD X a da) (hb : PD X b db) : PD X (.IfExp c a b pos) (dIf dt da db) := peImp (pe_ifExp hc ha hb) fun σ H Q ⟨F, ds, ms, P, R, S, h1, h2⟩ =>
  ⟨F, ds, ms, _, R, S, h1, fun k m F1 H1 p1 R1 s1 => by
    cases k with
    | true =>
      rw [if_pos rfl] at p1 ⊢
      exact ⟨F1, ds, m, P, R1, S.mono s1.sub, p1, fun k2 m2 v2 F2 H2 p2 R2 s2 r2 => h2 k2 m2 v2 F2 H2 p2 R2 (s1.trans s2) r2⟩
    | false =>
      rw [if_neg Bool.false_ne_true] at p1 ⊢
      exact ⟨F1, ds, m, P, R1, S.mono s1.sub, p1, fun k2 m2 v2 F2 H2 p2 R2 s2 r2 => h2 k2 m2 v2 F2 H2 p2 R2 (s1.trans s2) r2⟩⟩
def dNeg (da : DE) : DE := fun ds ms P => da ds ms fun x m => match x with
  | .int i => P (.int (-i)) m
  | _ => False
theorem pd_neg (h : PD X e da) : PD X (.UnaryOp .USub e pos) (dNeg da) := peImp (pe_un un_neg h) fun σ H Q ⟨F, ds, ms, P, R, S, h1, h2⟩ =>
  ⟨F, ds, ms, _, R, S, h1, fun k m v F1 H1 p1 R1 s1 r1 => by
    cases k with
    | int k => cases r1; exact ⟨k, rfl, h2 _ m _ F1 H1 p1 R1 s1 (.int _)⟩
    | _ => exact p1.elim⟩
end
structure EN where
  nx : DS → MS → Prop
  rt : D → MS → Prop
  bk : DS → MS → Prop := fun _ _ => False
  ct : DS → MS → Prop := fun _ _ => False
  ex : Str → List Str → List D → DS → MS → Prop := fun _ _ _ _ _ => False
abbrev DTS := EN → DS → MS → Prop
def liftS (K : PySem.W.Frag) (t : DTS) : TS := fun D σ H => ∃ F ds ms E, Rel K F H ms ∧ Sl K F σ ds ∧ t E ds ms ∧
  (∀ ds' ms' σ' F' H', E.nx ds' ms' → Rel K F' H' ms' → Stp F H ms F' H' ms' → Sl K F' σ' ds' → D.nx σ' H') ∧
  (∀ d ms' v F' H', E.rt d ms' → Rel K F' H' ms' → Stp F H ms F' H' ms' → DR K F' v d → D.rt v H') ∧
  (∀ ds' ms' σ' F' H', E.bk ds' ms' → Rel K F' H' ms' → Stp F H ms F' H' ms' → Sl K F' σ' ds' → D.bk σ' H') ∧
  (∀ ds' ms' σ' F' H', E.ct ds' ms' → Rel K F' H' ms' → Stp F H ms F' H' ms' → Sl K F' σ' ds' → D.ct σ' H')
abbrev PDS (X : Cx) (st : Stmt) (t : DTS) : Prop := PS X st (liftS X.K t)
abbrev PDSs (X : Cx) (st : List Stmt) (t : DTS) : Prop := PSs X st (liftS X.K t)
def dNext : DTS := fun E ds ms => E.nx ds ms
def dBreak : DTS := fun E ds ms => E.bk ds ms
def dCont : DTS := fun E ds ms => E.ct ds ms
def dSeq (t u : DTS) : DTS := fun E ds ms => t { E with nx := u E } ds ms
def dRet (de : DE) : DTS := fun E ds ms => de ds ms E.rt
def dRetN : DTS := fun E ds ms => E.rt .non ms
def dDrop (de : DE) : DTS := fun E ds ms => de ds ms fun _ m => E.nx ds m
def dIfS (c : DT) (t u : DTS) : DTS := fun E ds ms => c ds ms fun b m => if b = true then t E ds m else u E ds m
def dNever : DTS := fun _ _ _ => False
section
variable {X : Cx} {K : PySem.W.Frag} {da db dc : DE} {a b c e : Expr} {es : List Expr} {pos : Pos} {aa : DA} {st : Stmt} {rest : List Stmt} {t u : DTS} {dt : DT}
theorem pds_nil : PDSs X [] dNext := pssImp pss_nil fun D σ H ⟨F, ds, ms, E, R, S, h, n, r, k, q⟩ => n ds ms σ F H h R Stp.refl S
theorem lift_seq : ∀ D σ H, liftS K (dSeq t u) D σ H → tSeq (liftS K t) (liftS K u) D σ H := fun D σ H ⟨F, ds, ms, E, R, S, h, n, r, k, q⟩ =>
  ⟨F, ds, ms, { E with nx := u E }, R, S, h, fun ds1 m1 σ1 F1 H1 h1 R1 s1 S1 => ⟨F1, ds1, m1, E, R1, S1, h1,
    fun ds2 m2 σ2 F2 H2 h2 R2 s2 S2 => n ds2 m2 σ2 F2 H2 h2 R2 (s1.trans s2) S2, fun d m2 v F2 H2 h2 R2 s2 r2 => r d m2 v F2 H2 h2 R2 (s1.trans s2) r2,
    fun ds2 m2 σ2 F2 H2 h2 R2 s2 S2 => k ds2 m2 σ2 F2 H2 h2 R2 (s1.trans s2) S2, fun ds2 m2 σ2 F2 H2 h2 R2 s2 S2 => q ds2 m2 σ2 F2 H2 h2 R2 (s1.trans s2) S2⟩, r, k, q⟩
theorem pds_cons (h1 : PDS X st t) (h2 : PDSs X rest u) : PDSs X (st :: rest) (dSeq t u) := pssImp (pss_cons h1 h2) lift_seq
theorem pds_one (h1 : PDS X st t) : PDSs X [st] t := pss_one h1
theorem pds_never : PDS X st dNever := psImp ps_never fun D σ H ⟨F, ds, ms, E, R, S, h, n, r, k, q⟩ => h
theorem pds_expr (he : PD X e da) (hs : swapsWith e none pos.line X.env = pure false := by rfl) : PDS X (.Expr e pos) (dDrop da) := psImp (ps_expr he hs) fun D σ H ⟨F, ds, ms, E, R, S, h, n, r, k, q⟩ =>
  ⟨F, ds, ms, _, R, S, h, fun d m v F1 H1 p1 R1 s1 r1 => n ds m σ F1 H1 p1 R1 s1 (S.mono s1.sub)⟩
theorem pds_ret (he : PD X e da) : PDS X (.Return (some e) pos) (dRet da) := psImp (ps_ret he) fun D σ H ⟨F, ds, ms, E, R, S, h, n, r, k, q⟩ =>
  ⟨F, ds, ms, _, R, S, h, fun d m v F1 H1 p1 R1 s1 r1 => r d m v F1 H1 p1 R1 s1 r1⟩
theorem pds_if {x y : List Stmt} (hc : PDT X c dt) (ha : PDSs X x t) (hb : PDSs X y u) : PDS X (.If c x y pos) (dIfS dt t u) := psImp (ps_if hc ha hb) fun D σ H ⟨F, ds, ms, E, R, S, h, n, r, k, q⟩ =>
  ⟨F, ds, ms, _, R, S, h, fun b m F1 H1 p1 R1 s1 => by
    have mk : ∀ {w : DTS}, w E ds m → liftS X.K w D σ H1 := fun {w} hw => ⟨F1, ds, m, E, R1, S.mono s1.sub, hw,
      fun ds2 m2 σ2 F2 H2 h2 R2 s2 S2 => n ds2 m2 σ2 F2 H2 h2 R2 (s1.trans s2) S2, fun d m2 v F2 H2 h2 R2 s2 r2 => r d m2 v F2 H2 h2 R2 (s1.trans s2) r2,
      fun ds2 m2 σ2 F2 H2 h2 R2 s2 S2 => k ds2 m2 σ2 F2 H2 h2 R2 (s1.trans s2) S2, fun ds2 m2 σ2 F2 H2 h2 R2 s2 S2 => q ds2 m2 σ2 F2 H2 h2 R2 (s1.trans s2) S2⟩
    cases b with
    | true => rw [if_pos rfl] at p1; exact iteT (mk p1)
    | false => rw [if_neg Bool.false_ne_true] at p1; exact iteF (mk p1)⟩
abbrev DG := D → DS → (DS → Prop) → Prop
abbrev DGs := List D → DS → (DS → Prop) → Prop
structure TgD (K : PySem.W.Frag) (g : TG) (dg : DG) (vs : List Nat) : Prop where
  snd : ∀ (v : V) (σ : L2.St) (F H : Hp) (Q : L2.St → Hp → Prop) (d : D) (ds : DS) (P : DS → Prop), Sub F H → Sl K F σ ds → DR K F v d → dg d ds P → (∀ ds' σ', P ds' → Sl K F σ' ds' → Q σ' H) → g v σ H Q
  wip : ∀ (v : V) (σ : L2.St) (H : Hp) (Q : L2.St → Hp → Prop), g v σ H Q → g v σ H fun σ2 H2 => wipe σ2 vs = wipe σ vs ∧ Q σ2 H2
structure TgsD (K : PySem.W.Frag) (g : TGs) (dg : DGs) (vs : List Nat) : Prop where
  snd : ∀ (xs : List V) (σ : L2.St) (F H : Hp) (Q : L2.St → Hp → Prop) (d : List D) (ds : DS) (P : DS → Prop), Sub F H → Sl K F σ ds → DRs K F xs d → dg d ds P → (∀ ds' σ', P ds' → Sl K F σ' ds' → Q σ' H) → g xs σ H Q
  wip : ∀ (v : List V) (σ : L2.St) (H : Hp) (Q : L2.St → Hp → Prop), g v σ H Q → g v σ H fun σ2 H2 => wipe σ2 vs = wipe σ vs ∧ Q σ2 H2
def sName (i : Nat) : DG := fun d ds P => P (setSlot ds i d)
def sNil : DGs := fun xs ds P => match xs with
  | [] => P ds
  | _ => False
def sCons (g : DG) (gs : DGs) : DGs := fun xs ds P => match xs with
  | x :: r => g x ds fun ds1 => gs r ds1 P
  | [] => False
def sTup (n : Nat) (gs : DGs) : DG := fun d ds P => match d with
  | .tup xs => xs.length = n ∧ gs xs ds P
  | _ => False
theorem wipe_set {σ : L2.St} {o : Option V} {i : Nat} : ∀ {vs : List Nat}, i ∈ vs → wipe (σ.set i o) vs = wipe σ vs
  | [], h => absurd h (by simp)
  | v :: vs, h => by
    show (wipe (σ.set i o) vs).set v none = (wipe σ vs).set v none
    by_cases hv : i = v
    · subst hv
      have key : ∀ (ws : List Nat), (wipe (σ.set i o) ws).set i none = (wipe σ ws).set i none := by
        intro ws
        induction ws with
        | nil => show (σ.set i o).set i none = σ.set i none; rw [List.set_set]
        | cons w ws ih =>
          show ((wipe (σ.set i o) ws).set w none).set i none = ((wipe σ ws).set w none).set i none
          by_cases hw : w = i
          · subst hw; rw [List.set_set, List.set_set, ih]
          · rw [List.set_comm _ _ hw, List.set_comm _ _ hw, ih]
      exact key vs
    · rw [wipe_set ((List.mem_cons.mp h).resolve_left hv)]
theorem tg_name {i : Nat} {vs : List Nat} (h : i ∈ vs) : TgD K (gName i) (sName i) vs :=
  ⟨fun v σ F H Q d ds P sb S r hp q => q _ _ hp (S.set r i), fun v σ H Q h1 => ⟨wipe_set h, h1⟩⟩
theorem tgs_nil {vs : List Nat} : TgsD K gNil sNil vs :=
  ⟨fun xs σ F H Q d ds P sb S r hp q => by
    cases r with
    | nil => exact ⟨rfl, q _ _ hp S⟩
    | cons _ _ => exact hp.elim, fun v σ H Q h1 => ⟨h1.1, rfl, h1.2⟩⟩
theorem tgs_cons {g : TG} {gs : TGs} {dg : DG} {dgs : DGs} {vs : List Nat} (h : TgD K g dg vs) (hs : TgsD K gs dgs vs)
    (mg : ∀ v σ H (Q Q' : L2.St → Hp → Prop), (∀ s h, Q s h → Q' s h) → g v σ H Q → g v σ H Q') : TgsD K (gCons g gs) (sCons dg dgs) vs := by
  refine ⟨fun xs σ F H Q d ds P sb S r hp q => ?_, fun v σ H Q h1 => ?_⟩
  · cases r with
    | nil => exact hp.elim
    | cons r rs => exact ⟨_, _, rfl, h.snd _ _ F H _ _ _ _ sb S r hp fun ds1 σ1 h1 S1 => hs.snd _ _ F H _ _ _ _ sb S1 rs h1 q⟩
  · obtain ⟨x, r, e, h2⟩ := h1
    refine ⟨x, r, e, mg _ _ _ _ _ (fun σ1 H1 z => ?_) (h.wip _ _ _ _ h2)⟩
    obtain ⟨z1, z2⟩ := z
    have z3 := hs.wip _ _ _ _ z2
    rw [z1] at z3
    exact z3
theorem tg_tup {gs : TGs} {dgs : DGs} {vs : List Nat} {n : Nat} (hs : TgsD K gs dgs vs) : TgD K (gTup K n gs) (sTup n dgs) vs := by
  refine ⟨fun v σ F H Q d ds P sb S r hp q => ?_, fun v σ H Q h1 => ?_⟩
  · cases r with
    | tup h rs => exact ⟨_, _, rfl, sb.sqT h, by rw [rs.length]; exact hp.1, hs.snd _ _ F H _ _ _ _ sb S rs hp.2 q⟩
    | _ => exact hp.elim
  · obtain ⟨a, xs, e, h2, h3, h4⟩ := h1
    exact ⟨a, xs, e, h2, h3, hs.wip _ _ _ _ h4⟩
def MonG (g : TG) : Prop := ∀ v σ H (Q Q' : L2.St → Hp → Prop), (∀ s h, Q s h → Q' s h) → g v σ H Q → g v σ H Q'
def MonGs (g : TGs) : Prop := ∀ v σ H (Q Q' : L2.St → Hp → Prop), (∀ s h, Q s h → Q' s h) → g v σ H Q → g v σ H Q'
theorem mon_name {i : Nat} : MonG (gName i) := fun v σ H Q Q' h q => h _ _ q
theorem mon_nil : MonGs gNil := fun v σ H Q Q' h q => ⟨q.1, h _ _ q.2⟩
theorem mon_cons {g : TG} {gs : TGs} (a : MonG g) (b : MonGs gs) : MonGs (gCons g gs) := fun v σ H Q Q' h q =>
  let ⟨x, r, e, z⟩ := q; ⟨x, r, e, a _ _ _ _ _ (fun s hh z => b _ _ _ _ _ h z) z⟩
theorem mon_tup {gs : TGs} {n : Nat} (b : MonGs gs) : MonG (gTup K n gs) := fun v σ H Q Q' h q =>
  let ⟨a, xs, e, h2, h3, h4⟩ := q; ⟨a, xs, e, h2, h3, b _ _ _ _ _ h h4⟩
def dAsg (de : DE) (g : DG) : DTS := fun E ds ms => de ds ms fun d m => g d ds fun ds1 => E.nx ds1 m
theorem lift_asg {g : TG} {dg : DG} {vs : List Nat} (hg : TgD K g dg vs) : ∀ D σ H, liftS K (dAsg da dg) D σ H → tAsg (lift K da) g D σ H := fun D σ H ⟨F, ds, ms, E, R, S, h, n, r, k, q⟩ =>
  ⟨F, ds, ms, _, R, S, h, fun d m v F1 H1 p1 R1 s1 r1 => hg.snd v σ F1 H1 _ d ds _ R1.sub (S.mono s1.sub) r1 p1 fun ds1 σ1 h1 S1 => n ds1 m σ1 F1 H1 h1 R1 s1 S1⟩
theorem pds_set {i : Nat} {x : Str} {pos' : Pos} (hN : X.N.Nodup) (hi : X.N[i]? = some x) (hx : Loc X.env.scope x) (he : PD X e da) (hs : swapsWith e (some (.Name x pos')) pos.line X.env = pure false := by rfl)
    (hf : X.fn x = true ∨ X.env.scope.names.lookup x = some .local := by first | exact .inl rfl | exact .inr rfl | assumption) : PDS X (.Assign [.Name x pos'] e pos) (dAsg da (sName i)) :=
  psImp (ps_set hN hi hx he hs hf) (lift_asg (vs := [i]) (tg_name (by simp)))
theorem pds_asg {tg : Expr} {g : TG} {dg : DG} {vs : List Nat} (he : PD X e da) (hg : PG X tg g) (hd : TgD X.K g dg vs) (hs : swapsWithSole [tg] e pos.line X.env = pure false := by rfl) (hw : swappedStores [tg] e X.env = pure none := by rfl)
    (h1 : (assignEach [tg] X.env).map (·.2) = [assign tg X.env] := by rfl) : PDS X (.Assign [tg] e pos) (dAsg da dg) :=
  psImp (ps_asg he hg hs hw h1) (lift_asg hd)
/-- a, b = x, y with plain local names -/
def dPar (i j : Nat) (aa : DA) : DTS := fun E ds ms => aa ds ms fun xs m => match xs with
  | [x, y] => E.nx (setSlot (setSlot ds i x) j y) m
  | _ => False
end
end DL
namespace DL
open PySem PySem.Spec PyProof.Rows L2
structure RoomG (k : Nat) (A : Around) : Prop where
  r : Room k A
  g : A.guards = some []
theorem RoomG.mono {j k : Nat} {A : Around} (r : RoomG k A) (h : j ≤ k) : RoomG j A := ⟨r.r.mono h, r.g⟩
structure FnG (P : Program) (w : World) (K : PySem.W.Frag) (mg : Str → Option Value) (base : Heap) (k : Nat) (f : Addr) (fd : FuncData) (ps : List Str) (sp : Sp) : Prop where
  len : ∀ vs H Q E, sp vs H Q E → vs.length = ps.length
  go : ∀ (A : Around) (outer : List Env) (s : Shared) (H : Hp) (args : Args) (us : List Value) (vs : List V) (Q : VK), RoomG k A → Env0 P w K mg base A outer s H →
    BindsTo s fd args (ps.zip us) → Vals vs us → sp vs H Q E0 → codeAny (model P w) A (.call (.ref f) args) (CR CX0 outer P w H s Q E0) s
/-- which values go to the parameters: by their places among the positional ones and then the keywords -/
def pick {α : Type} (is : List Nat) (xs : List α) : List α := is.filterMap fun i => xs[i]?
theorem pick_vals {vs : List V} {us : List Value} (r : Vals vs us) : ∀ is : List Nat, Vals (pick is vs) (pick is us)
  | [] => .nil
  | i :: is => by
    unfold pick
    rw [List.filterMap_cons, List.filterMap_cons]
    cases e : vs[i]? with
    | none => rw [r.none_of e]; exact pick_vals r is
    | some v =>
      obtain ⟨u, h1, h2⟩ := r.get e
      rw [h1]
      exact .cons h2 (pick_vals r is)
theorem pick_drs {K : PySem.W.Frag} {F : Hp} {vs : List V} {xs : List D} (r : DRs K F vs xs) : ∀ is : List Nat, DRs K F (pick is vs) (pick is xs)
  | [] => .nil
  | i :: is => by
    unfold pick
    rw [List.filterMap_cons, List.filterMap_cons]
    cases e : vs[i]? with
    | none =>
      have h : xs[i]? = none := by
        have h1 := r.length
        have h2 := List.getElem?_eq_none_iff.mp e
        exact List.getElem?_eq_none_iff.mpr (by omega)
      rw [h]; exact pick_drs r is
    | some v =>
      obtain ⟨u, h1, h2⟩ := r.getV e
      rw [h1]
      exact .cons h2 (pick_drs r is)
structure Bnd (K : PySem.W.Frag) (fd : FuncData) (ps : List Str) (n : Nat) (ks : List Str) (is : List Nat) : Prop where
  to : ∀ (s : Shared) (us ws : List Value), K.In s.heap → us.length = n → ws.length = ks.length → BindsTo s fd ⟨us, ks.zip ws⟩ (ps.zip (pick is (us ++ ws)))
abbrev FS := List D → MS → (D → MS → Prop) → Prop
def spD (K : PySem.W.Frag) (fs : FS) : Sp := fun vs H Q _ => ∃ F ds ms P, Rel K F H ms ∧ DRs K F vs ds ∧ fs ds ms P ∧
  ∀ d ms' v F' H', P d ms' → Rel K F' H' ms' → Stp F H ms F' H' ms' → DR K F' v d → Q v H'
section
variable {X : Cx} {k n : Nat} {f : Addr} {fd : FuncData} {ps ks : List Str} {is : List Nat} {sp : Sp} {fs : FS} {x : Str} {p pos kpos : Pos} {e : Expr} {es : List Expr} {kws : List Keyword} {aa ak : DA} {da : DE} {nm : Option Str}
theorem run_g {pins : List (Addr × Obj)} {σ : L2.St} {H : Hp} {s : Shared} {Q : VK} {us ws : List Value} {vs zs : List V} (F : FnG X.prog X.w X.K X.mg X.base k f fd ps sp) (hr : RoomG k X.A) (hb : Bnd X.K fd ps n ks is)
    (I : Inv X pins σ H s) (r : Vals vs us) (rz : Vals zs ws) (l1 : vs.length = n) (l2 : zs.length = ks.length) (h : sp (pick is (vs ++ zs)) H Q E0) :
    wpAny (model X.prog X.w) X.A (call (.ref f) us (ks.zip ws)) (EP X pins σ Q) X.xe s := by
  have hb' := hb.to s us ws I.kIn (r.length ▸ l1) (rz.length ▸ l2)
  have hg := F.go X.A X.stack s H ⟨us, ks.zip ws⟩ _ _ Q hr I.env0 hb' (pick_vals (r.append rz) is) h
  refine wpAny_call (codeAny_mono hg fun r s' hq => ?_)
  match r, hq with
  | .error _, hq => exact hq.elim
  | .ok (.ret u), hq => exact I.after hq
  | .ok .next, hq => exact False.elim hq
  | .ok .brk, hq => exact False.elim hq
  | .ok .cont, hq => exact False.elim hq
abbrev PDK (X : Cx) (kws : List Keyword) (aa : DA) : Prop := PK X kws (liftA X.K aa)
theorem pkImp {X : Cx} {e : List Keyword} {t t' : TA} (h : PK X e t) (hi : ∀ σ H Q, t' σ H Q → t σ H Q) : PK X e t' := ⟨fun pos pins s σ H Q I hq => h.run pos pins s σ H Q I (hi σ H Q hq)⟩
theorem pdk_nil : PDK X [] aNil := pkImp pk_nil fun σ H Q ⟨F, ds, ms, P, R, S, h1, h2⟩ => h2 [] ms [] F H h1 R Stp.refl .nil
theorem pdk_cons (ha : PD X e da) (hr : PDK X kws aa) : PDK X (⟨nm, e, kpos⟩ :: kws) (aCons da aa) :=
  pkImp (pk_cons ha hr) fun σ H Q ⟨F, ds, ms, P, R, S, h1, h2⟩ =>
    ⟨F, ds, ms, _, R, S, h1, fun dx m1 x F1 H1 p1 R1 s1 r1 => ⟨F1, ds, m1, _, R1, S.mono s1.sub, p1, fun xs m2 vs F2 H2 p2 R2 s2 r2 =>
      h2 _ m2 (x :: vs) F2 H2 p2 R2 (s1.trans s2) (.cons (r1.mono s2.sub) r2)⟩⟩
/-- f(..): n positional ones, the others by keywords -/
def dCall (n : Nat) (m : Nat) (is : List Nat) (fs : FS) (aa ak : DA) : DE := fun ds ms P => aa ds ms fun xs m1 => ak ds m1 fun zs m2 => xs.length = n ∧ zs.length = m ∧ fs (pick is (xs ++ zs)) m2 P
def tCallG (n m : Nat) (is : List Nat) (sp : Sp) (t tk : TA) : TE := fun σ H Q => t σ H fun vs H1 => tk σ H1 fun zs H2 => vs.length = n ∧ zs.length = m ∧ sp (pick is (vs ++ zs)) H2 Q E0
theorem lift_call {K : PySem.W.Frag} {m : Nat} : ∀ σ H Q, lift K (dCall n m is fs aa ak) σ H Q → tCallG n m is (spD K fs) (liftA K aa) (liftA K ak) σ H Q := fun σ H Q ⟨F, ds, ms, P, R, S, h1, h2⟩ =>
  ⟨F, ds, ms, _, R, S, h1, fun xs m1 vs F1 H1 p1 R1 s1 r1 => ⟨F1, ds, m1, _, R1, S.mono s1.sub, p1, fun zs m2 ws F2 H2 p2 R2 s2 r2 => by
    obtain ⟨l1, l2, p2⟩ := p2
    refine ⟨r1.length.trans l1, r2.length.trans l2, F2, _, m2, P, R2, pick_drs ((r1.mono s2.sub).append r2) is, p2, fun d m3 v F3 H3 p3 R3 s3 r3 => ?_⟩
    exact h2 d m3 v F3 H3 p3 R3 (s1.trans (s2.trans s3)) r3⟩⟩
theorem pd_call (F : FnG X.prog X.w X.K X.mg X.base k f fd ps (spD X.K fs)) (hr : RoomG k X.A) (hg : Gl X x) (hm : X.mg x = some (.ref f)) (hk : PySem.W.keepIn X.K (.ref f) = true) (hb : Bnd X.K fd ps n [] is)
    (ha : PDA X (e :: es) aa) (hdb : (x == ("__debug__" : Str)) = false := by decide)
    (he : starEach (e :: es) X.env = (false, eval e X.env) :: starEach es X.env := by rfl)
    (hpl : (backTo pos (starEach es X.env)).any (·.1) = false := by rfl) :
    PD X (.Call (.Name x p) (e :: es) [] pos) (dCall n 0 is fs aa aNil) := by
  refine peImp (t := tCallG n 0 is (spD X.K fs) (liftA X.K aa) (liftA X.K aNil)) ⟨fun pins s σ H Q I h => ?_⟩ lift_call
  have h' : liftA X.K aa σ H (fun vs H1 => vs.length = n ∧ spD X.K fs (pick is (vs ++ [])) H1 Q E0) := by
    obtain ⟨F0, ds, ms, P, R, S, h1, h2⟩ := h
    refine ⟨F0, ds, ms, P, R, S, h1, fun xs m v F1 H1 p1 R1 s1 r1 => ?_⟩
    obtain ⟨F2, ds2, m2, P2, R2, S2, p2, q2⟩ := h2 xs m v F1 H1 p1 R1 s1 r1
    obtain ⟨l1, l2, z⟩ := q2 [] m2 [] F2 H1 p2 R2 Stp.refl .nil
    exact ⟨l1, z⟩
  refine wpAny_Call_Name_kw (ld_glob I hg hm ?_ hdb)
  refine PySem.W.callWith_K (h₀ := X.base) I.ok.mod.kin hk (thn (ha.run pos pins s σ H _ I h') ?_) he hpl
  rintro us s1 ⟨vs, H1, I1, r, l, q⟩
  exact ⟨I1.kIn, run_g (ws := []) (ks := []) F hr hb I1 r .nil l rfl q⟩
end
def startD : Nat → List D → DS
  | 0, _ => []
  | n + 1, [] => none :: startD n []
  | n + 1, d :: r => some d :: startD n r
theorem sl_start {K : PySem.W.Frag} {F : Hp} {N : List Str} {vs : List V} {ds : List D} (r : DRs K F vs ds) (hl : vs.length ≤ N.length) : Sl K F (L2.start N vs) (startD N.length ds) := by
  unfold L2.start
  have hrep : ∀ m : Nat, Sl K F (List.replicate m none) (startD m []) := fun m => by
    induction m with
    | zero => exact .nil
    | succ m ih => exact .nn ih
  have go : ∀ {vs : List V} {ds : List D} (m : Nat), DRs K F vs ds → vs.length ≤ m → Sl K F (vs.map some ++ List.replicate (m - vs.length) none) (startD m ds) := by
    intro vs
    induction vs with
    | nil => intro ds m r _; cases r; exact hrep m
    | cons v vs ih =>
      intro ds m r hm
      cases r with
      | cons r1 r2 =>
        cases m with
        | zero => simp at hm
        | succ m =>
          have e : m + 1 - (v :: vs).length = m - vs.length := by rw [List.length_cons]; omega
          rw [e]
          exact .sm r1 (ih m r2 (by rw [List.length_cons] at hm; omega))
  exact go _ r hl
theorem fnG_of {P : Program} {w : World} {K : PySem.W.Frag} {mg : Str → Option Value} {base : Heap} {k : Nat} {f : Addr} {fd : FuncData} {x qual : Str} {st : Stmt} {N ps : List Str} {fs : FS} {t : DTS}
    (F : Fun K x qual st f fd) (S : FnScope N ps (defScope st)) (len : ∀ ds ms Q, fs ds ms Q → ds.length = ps.length)
    (body : ∀ (cdv : Value) (A : Around) (outer : List Env) (s : Shared) (H : Hp), RoomG k (A.deeper (envOfC qual (defScope st) s.heap.objs.size f cdv)) →
      PDSs (cxOf CX0 P w K mg base N qual (defScope st) f cdv A outer s H E0).nox (defBody st) t)
    (sem : ∀ ds ms Q, fs ds ms Q → t { nx := fun _ m => Q .non m, rt := Q } (startD N.length ds) ms) : FnG P w K mg base (k + 1) f fd ps (spD K fs) := by
  have hlen : ∀ vs H Q E, spD K fs vs H Q E → vs.length = ps.length := by
    rintro vs H Q E ⟨F0, ds, ms, P0, R, r, h, _⟩
    rw [r.length]
    exact len ds ms P0 h
  refine ⟨hlen, ?_⟩
  intro A outer s H args us vs Q hr e0 hb r hsp
  obtain ⟨oc, od, kV, doc, pm, an, cdv, ct, osl, rfl, lk, hcd⟩ := F.ex
  have hl := hlen _ _ _ _ hsp
  have KX : K.In s.heap := e0.mod.kin.keeps fun b o e => (e0.bs b o e).1
  have lim : s.heap.NoLimit := e0.mod.nolimit.keeps fun b o e => (e0.bs b o e).1
  have hkind : ∀ y ∈ ps.zip us, (defScope st).names.lookup y.1 = some .local ∨ ((defScope st).names.lookup y.1 = some .cell ∧
      ((cellsFrom (s.heap.objs.size + 1) (defScope st).names []).lookup y.1).isSome = true) := by
    rintro ⟨n, v⟩ hy
    exact (S.par n (List.of_mem_zip hy).1).imp id fun q => ⟨q, PySem.W.cellsFrom_some _ _ _ (.inl q)⟩
  have hr2 : RoomG k (A.deeper (envOfC qual (defScope st) s.heap.objs.size f cdv)) := ⟨hr.r.deeper _, hr.g⟩
  refine codeAny_call_function hr.r.depth (KX _ _ lk) rfl S.co S.gen rfl (PySem.W.codeRec_of KX hcd) (hb _ _ _ _ ?_)
  refine wpAny_newFunctionEnv_cells S.kind hkind fun env he s1 x1 => ?_
  subst he
  refine ⟨lim.keeps x1.toInCall.keep, codeAny_func ?_⟩
  have I : Inv (cxOf CX0 P w K mg base N qual (defScope st) f cdv A outer s H E0) [] (L2.start N vs) H s1 := inv_start S hr.r.hd e0 hl r x1
  have hq : liftS K t { nx := fun _ H' => Q .non H', rt := Q } (L2.start N vs) H := by
    obtain ⟨F0, ds, ms, P0, R, rd, h, q⟩ := hsp
    refine ⟨F0, startD N.length ds, ms, _, R, sl_start rd (by rw [hl, ← S.pre]; exact List.length_take_le' _ _), sem ds ms P0 h, ?_, ?_, ?_, ?_⟩
    · exact fun ds' ms' σ' F' H' z R' s' S' => q .non ms' .non F' H' z R' s' .non
    · exact fun d ms' v F' H' z R' s' r' => q d ms' v F' H' z R' s' r'
    · exact fun _ _ _ _ _ z _ _ _ => z.elim
    · exact fun _ _ _ _ _ z _ _ _ => z.elim
  have hrun := ((body cdv A outer s H hr2).nox).run [] s1 (L2.start N vs) H _ I hq
  refine wpAny_mono hrun (fun fl s' hs => ?_) fun e s' hs => hs
  match fl, hs with
  | .ret u, hs =>
    obtain ⟨v, σ', H', J, rv, q⟩ := hs
    exact ⟨v, H', J.os, J.bare, J.base, J.hok, rv, q⟩
  | .next, hs =>
    obtain ⟨σ', H', J, q⟩ := hs
    exact ⟨V.non, H', J.os, J.bare, J.base, J.hok, rfl, q⟩
  | .brk, hs => obtain ⟨_, _, _, q⟩ := hs; exact False.elim q
  | .cont, hs => obtain ⟨_, _, _, q⟩ := hs; exact False.elim q
end DL
namespace DL
open PySem PySem.Spec PyProof.Rows L2
abbrev DI := DS → MS → (List D → MS → Prop) → Prop
def YD (K : PySem.W.Frag) (F : Hp) (xs : List D) : Nat → Hp → V → Hp → Prop := fun i H x H' => ∃ d, xs[i]? = some d ∧
  ((H' = H ∧ DR K F x d) ∨ ∃ T a b da db, x = .ref T ∧ H T = none ∧ H' = upd H T (.tup [a, b]) ∧ d = .tup [da, db] ∧ DR K F a da ∧ DR K F b db)
abbrev ItD (K : PySem.W.Frag) (J : It) (xs : List D) (F : Hp) : Prop := Walk J xs.length (fun H => Sub F H) (YD K F xs)
def liftI (K : PySem.W.Frag) (di : DI) : TI := fun σ H R => ∃ F ds ms P, Rel K F H ms ∧ Sl K F σ ds ∧ di ds ms P ∧
  ∀ xs ms' F' H' J, P xs ms' → Rel K F' H' ms' → Stp F H ms F' H' ms' → ItD K J xs F' → R J H'
abbrev PDI (X : Cx) (tg e : Expr) (di : DI) : Prop := PI X tg e (liftI X.K di)
theorem piImp {X : Cx} {tg e : Expr} {t t' : TI} (h : PI X tg e t) (hi : ∀ σ H R, t' σ H R → t σ H R) : PI X tg e t' := ⟨fun pins s σ H R I hq => h.run pins s σ H R I (hi σ H R hq)⟩
theorem itd_list {K : PySem.W.Frag} {F : Hp} {a : Addr} {vs : List V} {xs : List D} (h : SqL K F a vs) (r : DRs K F vs xs) : ItD K (Itl K a) xs F := by
  unfold ItD
  rw [← r.length]
  refine (walk_list (K := K) (a := a) (xs := vs)).mono (fun H s => s.sqL h) fun i H x H' hi s y => ?_
  obtain ⟨d, h1, h2⟩ := r.getV y.2
  exact ⟨d, h1, .inl ⟨y.1, h2⟩⟩
/-- lo, lo + 1, .. -/
def rng (lo : Int) (n : Nat) : List D := (List.range n).map fun i => D.int (lo + (i : Nat))
theorem itd_range {K : PySem.W.Frag} {F : Hp} {lo : Int} {n : Nat} : ItD K (Itr lo n) (rng lo n) F := by
  unfold ItD
  have e : (rng lo n).length = n := by unfold rng; simp
  rw [e]
  refine (walk_range (lo := lo) (n := n)).mono (fun H s => trivial) fun i H x H' hi s y => ?_
  refine ⟨.int (lo + (i : Nat)), ?_, .inl ⟨y.1, by rw [y.2]; exact .int _⟩⟩
  unfold rng
  rw [List.getElem?_map, List.getElem?_range hi]; rfl
def rngC (lo c : Int) (n : Nat) : List D := (List.range n).map fun i => D.int (lo + (i : Nat) * c)
def zipD (xs ys : List D) : List D := List.zipWith (fun x y => D.tup [x, y]) xs ys
def enumD (xs : List D) : List D := List.zipWith (fun x y => D.tup [x, y]) (rng 0 xs.length) xs
theorem itd_enum {K : PySem.W.Frag} {F : Hp} {a : Addr} {vs : List V} {xs : List D} (h : SqL K F a vs) (r : DRs K F vs xs) : ItD K (Ite K a) (enumD xs) F := by
  unfold ItD
  have e : (enumD xs).length = vs.length := by unfold enumD rng; rw [List.length_zipWith, List.length_map, List.length_range, r.length]; simp
  rw [e]
  refine (walk_enum (K := K) (a := a) (xs := vs)).mono (fun H s => s.sqL h) fun i H x H' hi s y => ?_
  obtain ⟨T, u, w, e1, e2, e3, e4, e5⟩ := y
  obtain ⟨d, z1, z2⟩ := r.getV e5
  have e4' : u = .int (i : Nat) := (Option.some.inj e4).symm
  subst e4'
  refine ⟨.tup [.int (i : Nat), d], ?_, .inr ⟨T, _, w, _, d, e1, e2, e3, rfl, .int _, z2⟩⟩
  unfold enumD rng
  rw [r.length] at hi
  rw [List.getElem?_zipWith, z1, List.getElem?_map, List.getElem?_range hi]
  simp
def strD (z : Str) : List D := z.cps.toList.map fun c => D.str ⟨#[c]⟩
theorem itd_str {K : PySem.W.Frag} {F : Hp} {z : Str} : ItD K (Its z) (strD z) F := by
  unfold ItD
  have e : (strD z).length = z.cps.size := by unfold strD; simp
  rw [e]
  refine (walk_str (z := z)).mono (fun H s => trivial) fun i H x H' hi s y => ?_
  obtain ⟨e1, c, e2, e3⟩ := y
  refine ⟨.str ⟨#[c]⟩, ?_, .inl ⟨e1, by rw [e3]; exact .str _⟩⟩
  unfold strD
  rw [List.getElem?_map, Array.getElem?_toList, e2]; rfl
/-- the items of what is a list here: known, or one that may change -/
def look : MS → Addr → Option (List D)
  | [], _ => none
  | (q, xs) :: r, p => if q = p then some xs else look r p
def asL (d : D) (ms : MS) : Option (List D) := match d with
  | .lst xs => some xs
  | .fro xs => some xs
  | .opq (.ref p) => look ms p
  | _ => none
theorem look_mem : ∀ {ms : MS} {p : Addr} {xs : List D}, look ms p = some xs → (p, xs) ∈ ms
  | [], _, _, h => by cases h
  | (q, ys) :: r, p, xs, h => by
    unfold look at h
    by_cases e : q = p
    · rw [if_pos e] at h; cases h; subst e; exact List.mem_cons_self
    · rw [if_neg e] at h; exact List.mem_cons_of_mem _ (look_mem h)
section
variable {K : PySem.W.Frag} {F H : Hp} {ms : MS}
theorem Rel.look (R : Rel K F H ms) {p : Addr} {xs : List D} (h : look ms p = some xs) : F p = none ∧ ∃ vs, H p = some (.lst vs) ∧ DRs K F vs xs := R.mu (p, xs) (look_mem h)
theorem Rel.asL (R : Rel K F H ms) {v : V} {d : D} {xs : List D} (r : DR K F v d) (h : asL d ms = some xs) : ∃ a vs, v = .ref a ∧ SqL K H a vs ∧ DRs K F vs xs := by
  cases r with
  | lst h1 h2 => cases h; exact ⟨_, _, rfl, SqL.of (R.sub _ _ h1), h2⟩
  | fro h1 h2 => cases h; exact ⟨_, _, rfl, R.sub.sqL h1, h2⟩
  | opq v =>
    cases v with
    | ref p =>
      obtain ⟨_, vs, h1, h2⟩ := R.look h
      exact ⟨p, vs, rfl, SqL.of h1, h2⟩
    | _ => cases h
  | _ => cases h
end
section
variable {X : Cx} {tg e e2 : Expr} {da db : DE} {aa : DA} {p pos tpos : Pos} {elts : List Expr} {kk : Nat}
/-- a list, a tuple, a text that are known -/
def iSeq (de : DE) : DI := fun ds ms P => de ds ms fun d m => match d with
  | .lst xs => P xs m
  | .fro xs => P xs m
  | _ => False
def iTupD (de : DE) : DI := fun ds ms P => de ds ms fun d m => match d with
  | .tup xs => P xs m
  | _ => False
def iStrD (de : DE) : DI := fun ds ms P => de ds ms fun d m => match d with
  | .str z => P (strD z) m
  | _ => False
theorem pdi_list (h : PD X e da) : PDI X tg e (iSeq da) := piImp (pi_list h) fun σ H R ⟨F, ds, ms, P, Rl, S, h1, h2⟩ =>
  ⟨F, ds, ms, _, Rl, S, h1, fun d m v F1 H1 p1 R1 s1 r1 => by
    cases r1 with
    | lst ha hs => exact ⟨_, rfl, ⟨_, SqL.of (R1.sub _ _ ha)⟩, h2 _ m F1 H1 _ p1 R1 s1 (itd_list (SqL.of ha) hs)⟩
    | fro ha hs => exact ⟨_, rfl, ⟨_, R1.sub.sqL ha⟩, h2 _ m F1 H1 _ p1 R1 s1 (itd_list ha hs)⟩
    | _ => exact p1.elim⟩
theorem pdi_str (h : PD X e da) : PDI X tg e (iStrD da) := piImp (pi_str h) fun σ H R ⟨F, ds, ms, P, Rl, S, h1, h2⟩ =>
  ⟨F, ds, ms, _, Rl, S, h1, fun d m v F1 H1 p1 R1 s1 r1 => by
    cases r1 with
    | str z => exact ⟨z, rfl, h2 _ m F1 H1 _ p1 R1 s1 itd_str⟩
    | _ => exact p1.elim⟩
def iRange1 (aa : DA) : DI := fun ds ms P => aa ds ms fun xs m => match xs with
  | [.int j] => (-(2 ^ 62) ≤ j ∧ j < 2 ^ 62) ∧ P (rng 0 j.toNat) m
  | _ => False
def iRange2 (aa : DA) : DI := fun ds ms P => aa ds ms fun xs m => match xs with
  | [.int i, .int j] => (-(2 ^ 62) ≤ i ∧ i < 2 ^ 62 ∧ -(2 ^ 62) ≤ j ∧ j < 2 ^ 62) ∧ P (rng i (j - i).toNat) m
  | _ => False
def iRange3 (aa : DA) : DI := fun ds ms P => aa ds ms fun xs m => match xs with
  | [.int i, .int j, .int c] => ∃ n, RgC i j c n ∧ P (rngC i c n) m
  | _ => False
theorem pdi_range1 (hg : Gl X "range") (hm : X.mg "range" = none) (ha : PDA X [e] aa) (hs : starEach [e] X.env = [(false, eval e X.env)] := by rfl) : PDI X tg (.Call (.Name "range" p) [e] [] pos) (iRange1 aa) :=
  piImp (pi_range1 hg hm ha hs) fun σ H R ⟨F, ds, ms, P, Rl, S, h1, h2⟩ =>
    ⟨F, ds, ms, _, Rl, S, h1, fun xs m vs F1 H1 p1 R1 s1 r1 => by
      match xs, r1, p1 with
      | [.int j], .cons (.int _) .nil, p1 => exact ⟨j, rfl, p1.1.1, p1.1.2, h2 _ m F1 H1 _ p1.2 R1 s1 itd_range⟩⟩
def iZipD (aa : DA) : DI := fun ds ms P => aa ds ms fun xs m => match xs with
  | [.lst a, .lst b] => P (zipD a b) m
  | _ => False
def iEnumD (aa : DA) : DI := fun ds ms P => aa ds ms fun xs m => match xs with
  | [.lst a] => P (enumD a) m
  | _ => False
theorem pdi_enum (hg : Gl X "enumerate") (hm : X.mg "enumerate" = none) (ha : PDA X [e] aa) (hs : starEach [e] X.env = [(false, eval e X.env)] := by rfl) :
    PDI X (.Tuple elts kk tpos) (.Call (.Name "enumerate" p) [e] [] pos) (iEnumD aa) :=
  piImp (pi_enum hg hm ha hs) fun σ H R ⟨F, ds, ms, P, Rl, S, h1, h2⟩ =>
    ⟨F, ds, ms, _, Rl, S, h1, fun xs m vs F1 H1 p1 R1 s1 r1 => by
      match xs, r1, p1 with
      | [.lst a], .cons (.lst ha hs) .nil, p1 => exact ⟨_, _, rfl, SqL.of (R1.sub _ _ ha), h2 _ m F1 H1 _ p1 R1 s1 (itd_enum (SqL.of ha) hs)⟩⟩
end
def loopD (g : DG) (tb : DTS) (E : EN) : List D → DS → MS → Prop
  | [], ds, ms => E.nx ds ms
  | x :: r, ds, ms => g x ds fun ds1 => tb { E with nx := loopD g tb E r, ct := loopD g tb E r, bk := E.nx } ds1 ms
def dFor (di : DI) (g : DG) (tb : DTS) : DTS := fun E ds ms => di ds ms fun xs m => loopD g tb E xs ds m
section
variable {K : PySem.W.Frag} {di : DI} {dg : DG} {tb : DTS} {g : TG} {vs : List Nat}
theorem drop_get {xs : List D} {i : Nat} {d : D} (h : xs[i]? = some d) : xs.drop i = d :: xs.drop (i + 1) := by
  obtain ⟨hi, e⟩ := List.getElem?_eq_some_iff.mp h
  rw [List.drop_eq_getElem_cons hi, e]
theorem lift_for (hg : TgD K g dg vs) : ∀ D σ H, liftS K (dFor di dg tb) D σ H → tFor (liftI K di) g (liftS K tb) D σ H := fun D σ H ⟨F, ds, ms, E, R, S, h, n, r, k, q⟩ => by
  refine ⟨F, ds, ms, _, R, S, h, fun xs m F0 H0 J p0 R0 s0 wk => ?_⟩
  refine for_it wk (fun i σ1 H1 => ∃ F1 ds1 m1, Rel K F1 H1 m1 ∧ Stp F H ms F1 H1 m1 ∧ Sub F0 F1 ∧ Sl K F1 σ1 ds1 ∧ loopD dg tb E (xs.drop i) ds1 m1)
    ⟨F0, ds, m, R0, s0, Sub.refl F0, S.mono s0.sub, p0⟩ (fun i σ1 H1 _ ⟨F1, ds1, m1, R1, s1, s01, S1, h1⟩ => s01.trans R1.sub) ?_ ?_
  · rintro i x σ1 H1 H2 hi ⟨F1, ds1, m1, R1, s1, s01, S1, h1⟩ ⟨d, hd, hy⟩
    rw [drop_get hd] at h1
    have fin : ∀ {F2 : Hp} {x : V}, Rel K F2 H2 m1 → Stp F H ms F2 H2 m1 → Sub F1 F2 → DR K F2 x d →
        g x σ1 H2 fun σ2 H3 => liftS K tb { D with nx := fun σ1 H1 => ∃ F1 ds1 m1, Rel K F1 H1 m1 ∧ Stp F H ms F1 H1 m1 ∧ Sub F0 F1 ∧ Sl K F1 σ1 ds1 ∧ loopD dg tb E (xs.drop (i + 1)) ds1 m1, ct := fun σ1 H1 => ∃ F1 ds1 m1, Rel K F1 H1 m1 ∧ Stp F H ms F1 H1 m1 ∧ Sub F0 F1 ∧ Sl K F1 σ1 ds1 ∧ loopD dg tb E (xs.drop (i + 1)) ds1 m1, bk := D.nx } σ2 H3 := by
      intro F2 x R2 s2 s12 rx
      refine hg.snd x σ1 F2 H2 _ d ds1 _ R2.sub (S1.mono s12) rx h1 fun ds2 σ2 h2 S2 => ?_
      refine ⟨F2, ds2, m1, _, R2, S2, h2, ?_, ?_, ?_, ?_⟩
      · exact fun ds3 m3 σ3 F3 H3 h3 R3 s3 S3 => ⟨F3, ds3, m3, R3, s2.trans s3, (s01.trans s12).trans s3.sub, S3, h3⟩
      · exact fun d3 m3 v3 F3 H3 h3 R3 s3 r3 => r d3 m3 v3 F3 H3 h3 R3 (s2.trans s3) r3
      · exact fun ds3 m3 σ3 F3 H3 h3 R3 s3 S3 => n ds3 m3 σ3 F3 H3 h3 R3 (s2.trans s3) S3
      · exact fun ds3 m3 σ3 F3 H3 h3 R3 s3 S3 => ⟨F3, ds3, m3, R3, s2.trans s3, (s01.trans s12).trans s3.sub, S3, h3⟩
    rcases hy with ⟨rfl, rx⟩ | ⟨T, a, b, da, db, rfl, hT, rfl, rfl, ra, rb⟩
    · exact fin R1 s1 (Sub.refl F1) (rx.mono s01)
    · exact fin (R1.new hT) (s1.trans (Stp.new R1 hT)) (Sub.new (R1.sub.none hT)) (R1.newTup hT (.cons (ra.mono s01) (.cons (rb.mono s01) .nil)))
  · rintro σ1 H1 ⟨F1, ds1, m1, R1, s1, s01, S1, h1⟩
    rw [List.drop_length] at h1
    exact n ds1 m1 σ1 F1 H1 h1 R1 s1 S1
theorem pds_for {X : Cx} {tg iter : Expr} {body : List Stmt} {pos : Pos} (hc : X.calm = true) (hi : PDI X tg iter di) (hg : PG X tg g) (hd : TgD X.K g dg vs) (hb : PDSs X body tb) (hp : PassesOwn (model X.prog X.w) X.A X.env X.xe := by exact PassesOwn.never)
    (hs : ∀ x, foldedSetIterable iter X.env x = pure x := by intro _; rfl) : PDS X (.For tg iter body [] pos) (dFor di dg tb) := psImp (ps_for hp hc hi hg hb hs) (lift_for hd)
end
def whileD (c : DT) (tb : DTS) (E : EN) : Nat → DS → MS → Prop
  | 0, _, _ => False
  | n + 1, ds, ms => c ds ms fun b m => if b = true then tb { E with nx := whileD c tb E n, ct := whileD c tb E n, bk := E.nx } ds m else E.nx ds m
def dWhile (c : DT) (tb : DTS) : DTS := fun E ds ms => ∃ n, whileD c tb E n ds ms
def wipeD (ds : DS) : List Nat → DS
  | [] => ds
  | v :: vs => (wipeD ds vs).set v none
theorem Sl.wipe1 {K : PySem.W.Frag} {F : Hp} : ∀ {σ : L2.St} {ds : DS} (i : Nat), Sl K F σ ds → Sl K F (σ.set i none) (ds.set i none)
  | _, _, i, .nil => by cases i <;> exact .nil
  | _, _, 0, .sm _ r => .nn r
  | _, _, 0, .nn r => .nn r
  | _, _, i + 1, .sm q r => .sm q (Sl.wipe1 i r)
  | _, _, i + 1, .nn r => .nn (Sl.wipe1 i r)
theorem Sl.wipe {K : PySem.W.Frag} {F : Hp} {σ : L2.St} {ds : DS} (S : Sl K F σ ds) : ∀ vs : List Nat, Sl K F (L2.wipe σ vs) (wipeD ds vs)
  | [] => S
  | v :: vs => Sl.wipe1 v (Sl.wipe S vs)
theorem wipe_wipe {σ : L2.St} {ws : List Nat} : ∀ {us : List Nat}, (∀ u ∈ us, u ∈ ws) → L2.wipe (L2.wipe σ us) ws = L2.wipe σ ws
  | [], _ => rfl
  | u :: us, h => by
    show L2.wipe ((L2.wipe σ us).set u none) ws = L2.wipe σ ws
    rw [wipe_set (h u List.mem_cons_self), wipe_wipe fun v hv => h v (List.mem_cons_of_mem _ hv)]
theorem Stp.kp {F H F1 H1 : Hp} {ms m1 : MS} (a : Stp F H ms F1 H1 m1) {c : Addr} {o : HO} (h1 : H c = some o) (h2 : F c = none) (h3 : ∀ p ∈ ms, p.1 ≠ c) : H1 c = some o ∧ F1 c = none ∧ ∀ p ∈ m1, p.1 ≠ c := by
  refine ⟨a.keep c o h1 h2 h3, ?_, fun p hp e => ?_⟩
  · cases e : F1 c with
    | none => rfl
    | some u =>
      rcases a.newF c u e with z | z | ⟨p, hp, z⟩
      · rw [h2] at z; cases z
      · rw [h1] at z; cases z
      · exact absurd z (h3 p hp)
  · rcases a.newM p hp with ⟨q, hq, z⟩ | z | ⟨u, z⟩
    · exact h3 q hq (z.trans e)
    · rw [e, h1] at z; cases z
    · rw [e, h2] at z; cases z
def compD (g : DG) (tt : DT) (te : DE) (ds : DS) : List D → List D → MS → (List D → MS → Prop) → Prop
  | [], acc, ms, P => P acc ms
  | x :: r, acc, ms, P => g x ds fun ds2 => tt ds2 ms fun b m3 => if b = true then te ds2 m3 fun y m4 => acc.length < sizeLine ∧ compD g tt te ds r (acc ++ [y]) m4 P else compD g tt te ds r acc m3 P
def dLc (di : DI) (g : DG) (tt : DT) (te : DE) (vs : List Nat) : DE := fun ds ms P => di ds ms fun xs m => compD g tt te (wipeD ds vs) xs [] m fun ys m' => P (.lst ys) m'
/-- without a test -/
def dYes : DT := fun _ ms P => P true ms
section
variable {K : PySem.W.Frag} {di : DI} {dg : DG} {tt : DT} {te : DE} {g : TG} {vs : List Nat}
theorem lift_lc (hg : TgD K g dg vs) (hm : MonG g) : ∀ σ H Q, lift K (dLc di dg tt te vs) σ H Q → tLc (liftI K di) g (liftT K tt) (lift K te) vs σ H Q := fun σ H Q ⟨F, ds, ms, P, R, S, h, q⟩ => by
  refine ⟨F, ds, ms, _, R, S, h, fun xs m F0 H0 J p0 R0 s0 wk L hL => ?_⟩
  have nL : F0 L = none := R0.sub.none hL
  have nM : ∀ p ∈ m, p.1 ≠ L := fun p hp => by
    obtain ⟨_, ws, h2, _⟩ := R0.mu p hp
    exact ne_of_none h2 hL
  refine lc_it wk (fun i H1 => ∃ F1 m1 acc av, Rel K F1 H1 m1 ∧ Stp F0 H0 m F1 H1 m1 ∧ H1 L = some (.lst av) ∧ F1 L = none ∧ (∀ p ∈ m1, p.1 ≠ L) ∧ DRs K F1 av acc ∧ compD dg tt te (wipeD ds vs) (xs.drop i) acc m1 fun ys m' => P (.lst ys) m')
    ⟨F0, m, [], [], R0.lay hL, ⟨Sub.refl F0, fun a u h1 _ _ => by rw [upd_ne (ne_of_none h1 hL)]; exact h1, fun _ _ h => .inl h, fun q hq => .inl ⟨q, hq, rfl⟩⟩, upd_same, nL, nM, .nil, p0⟩
    (fun i H1 _ ⟨F1, m1, acc, av, R1, s1, _⟩ => s1.sub.trans R1.sub) ?_ ?_
  · rintro i x H1 H2 hi ⟨F1, m1, acc, av, R1, s1, hD, hF, hM, ra, h1⟩ ⟨d, hd, hy⟩
    rw [drop_get hd] at h1
    have fin : ∀ {F2 : Hp} {x : V}, Rel K F2 H2 m1 → Stp F0 H0 m F2 H2 m1 → Sub F1 F2 → DR K F2 x d → H2 L = some (.lst av) → F2 L = none →
        g x (L2.wipe σ vs) H2 fun σ2 H3 => L2.wipe σ2 vs = L2.wipe σ vs ∧ liftT K tt σ2 H3 fun b H4 => if b = true then lift K te σ2 H4 fun y H5 => ∃ acc, H5 L = some (.lst acc) ∧ acc.length < sizeLine ∧
          (∃ F1 m1 acc' av, Rel K F1 (upd H5 L (.lst (acc ++ [y]))) m1 ∧ Stp F0 H0 m F1 (upd H5 L (.lst (acc ++ [y]))) m1 ∧ (upd H5 L (.lst (acc ++ [y]))) L = some (.lst av) ∧ F1 L = none ∧ (∀ p ∈ m1, p.1 ≠ L) ∧ DRs K F1 av acc' ∧ compD dg tt te (wipeD ds vs) (xs.drop (i + 1)) acc' m1 fun ys m' => P (.lst ys) m')
          else ∃ F1 m1 acc av, Rel K F1 H4 m1 ∧ Stp F0 H0 m F1 H4 m1 ∧ H4 L = some (.lst av) ∧ F1 L = none ∧ (∀ p ∈ m1, p.1 ≠ L) ∧ DRs K F1 av acc ∧ compD dg tt te (wipeD ds vs) (xs.drop (i + 1)) acc m1 fun ys m' => P (.lst ys) m' := by
      intro F2 x R2 s2 s12 rx hD2 hF2
      have hw := hg.wip x (L2.wipe σ vs) H2 _ (hg.snd x (L2.wipe σ vs) F2 H2 (fun σ2 H3 => H3 = H2 ∧ ∃ ds2, Sl K F2 σ2 ds2 ∧ tt ds2 m1 fun b m3 => if b = true then te ds2 m3 fun y m4 => acc.length < sizeLine ∧ compD dg tt te (wipeD ds vs) (xs.drop (i + 1)) (acc ++ [y]) m4 fun ys m' => P (.lst ys) m' else compD dg tt te (wipeD ds vs) (xs.drop (i + 1)) acc m3 fun ys m' => P (.lst ys) m') d (wipeD ds vs) _ R2.sub ((S.wipe vs).mono (s0.sub.trans s2.sub)) rx h1 fun ds2 σ2 h2 S2 => ⟨rfl, ds2, S2, h2⟩)
      refine hm _ _ _ _ _ ?_ hw
      rintro σ2 H3 ⟨e1, rfl, ds2, S2, h2⟩
      refine ⟨e1.trans (wipe_wipe fun u hu => hu), F2, ds2, m1, _, R2, S2, h2, fun b m4 F4 H4 p4 R4 s4 => ?_⟩
      obtain ⟨hD4, hF4, hM4⟩ := s4.kp hD2 hF2 hM
      cases b with
      | false =>
        rw [if_neg Bool.false_ne_true] at p4 ⊢
        exact ⟨F4, m4, acc, av, R4, s2.trans s4, hD4, hF4, hM4, (ra.mono s12).mono s4.sub, p4⟩
      | true =>
        rw [if_pos rfl] at p4 ⊢
        refine ⟨F4, ds2, m4, _, R4, S2.mono s4.sub, p4, fun y m5 v5 F5 H5 p5 R5 s5 r5 => ?_⟩
        obtain ⟨hD5, hF5, hM5⟩ := s5.kp hD4 hF4 hM4
        have ra5 := ((ra.mono s12).mono s4.sub).mono s5.sub
        have s05 := (s2.trans s4).trans s5
        refine ⟨av, hD5, by rw [ra.length]; exact p5.1, F5, m5, acc ++ [y], av ++ [v5], ?_, ?_, upd_same, hF5, hM5, ra5.append (.cons r5 .nil), p5.2⟩
        · refine ⟨fun b u e => ?_, fun p hp => ?_, R5.nd, R5.one⟩
          · rw [upd_ne (fun z => by rw [z, hF5] at e; cases e)]; exact R5.sub b u e
          · obtain ⟨z1, ws, z2, z3⟩ := R5.mu p hp
            exact ⟨z1, ws, by rw [upd_ne (hM5 p hp)]; exact z2, z3⟩
        · exact ⟨s05.sub, fun a u z1 z2 z3 => by rw [upd_ne (ne_of_none z1 hL)]; exact s05.keep a u z1 z2 z3, s05.newF, s05.newM⟩
    rcases hy with ⟨rfl, rx⟩ | ⟨T, a, b, da, db, rfl, hT, rfl, rfl, ra', rb'⟩
    · exact fin R1 s1 (Sub.refl F1) (rx.mono s1.sub) hD hF
    · have hne : L ≠ T := ne_of_none hD hT
      exact fin (R1.new hT) (s1.trans (Stp.new R1 hT)) (Sub.new (R1.sub.none hT)) (R1.newTup hT (.cons (ra'.mono s1.sub) (.cons (rb'.mono s1.sub) .nil))) (by rw [upd_ne hne]; exact hD) (by rw [upd_ne hne]; exact hF)
  · rintro H1 ⟨F1, m1, acc, av, R1, s1, hD, hF, hM, ra, h1⟩
    rw [List.drop_length] at h1
    have sF : Sub F1 (upd F1 L (.lst av)) := Sub.new hF
    refine q _ m1 _ (upd F1 L (.lst av)) H1 h1 ?_ (s0.trans ?_) (.lst upd_same (ra.mono sF))
    · refine ⟨fun b u e => ?_, fun p hp => ?_, R1.nd, R1.one.mono sF⟩
      · by_cases hb : b = L
        · subst hb; rw [upd_same] at e; rw [hD]; exact e
        · rw [upd_ne hb] at e; exact R1.sub b u e
      · obtain ⟨z1, ws, z2, z3⟩ := R1.mu p hp
        exact ⟨by rw [upd_ne (hM p hp)]; exact z1, ws, z2, z3.mono sF⟩
    · refine ⟨s1.sub.trans sF, s1.keep, fun a u e => ?_, s1.newM⟩
      by_cases hb : a = L
      · subst hb; exact .inr (.inl hL)
      · rw [upd_ne hb] at e; exact s1.newF a u e
end
end DL
namespace DL
open PySem PySem.Spec PyProof.Rows L2
abbrev PDTs (X : Cx) (es : List Expr) (t : DT) : Prop := PTs X es (liftT X.K t)
theorem pdts_nil {X : Cx} : PDTs X [] dYes := ⟨fun pins s σ H Q I ⟨F, ds, ms, P, R, S, h1, h2⟩ => pts_nil.run pins s σ H Q I (h2 true ms F H h1 R Stp.refl)⟩
theorem pdts_one {X : Cx} {c : Expr} {t : DT} (h : PDT X c t) : PDTs X [c] t := pts_one h
section
variable {X : Cx} {elt tg iter : Expr} {ifs : List Expr} {scope : Scope} {own : List (Str × Nat)} {pos spos py : Pos} {di : DI} {g : TG} {dg : DG} {tt : DT} {te : DE} {i : Nat} {y : Str}
theorem pd_lc (hc : X.calm = true) (hN : X.N.Nodup) (hi : PDI X tg iter di) (ok : BlkOk X.N X.env.scope scope own)
    (hg : ∀ (s : Shared) (H : Hp) (C : Addr) (cl : List (Str × Addr)) (fp : List Addr), PG (X.blk s H scope (compEnvC scope cl C X.env) fp) tg g)
    (hd : TgD X.K g dg (own.map (·.2))) (hm : MonG g)
    (ht : ∀ (s : Shared) (H : Hp) (C : Addr) (cl : List (Str × Addr)) (fp : List Addr), PDTs (X.blk s H scope (compEnvC scope cl C X.env) fp) ifs tt)
    (he : ∀ (s : Shared) (H : Hp) (C : Addr) (cl : List (Str × Addr)) (fp : List Addr), PD (X.blk s H scope (compEnvC scope cl C X.env) fp) elt te)
    (hs : ∀ x, foldedSetIterable iter X.env x = pure x := by intro _; rfl) :
    PD X (.ListComp elt [⟨tg, iter, ifs, 0⟩] scope pos) (dLc di dg tt te (own.map (·.2))) :=
  peImp (pe_lc hc hN hi ok hg ht he hs) (lift_lc hd hm)
theorem pds_setLc (hc : X.calm = true) (hN : X.N.Nodup) (hy : X.N[i]? = some y) (hyl : X.env.scope.names.lookup y = some .local)
    (hsw : swapsWith (.ListComp elt [⟨tg, iter, ifs, 0⟩] scope pos) (some (.Name y py)) spos.line X.env = pure true) (hi : PDI X tg iter di) (ok : BlkOk X.N X.env.scope scope own)
    (hg : ∀ (s : Shared) (H : Hp) (C : Addr) (cl : List (Str × Addr)) (fp : List Addr), PG (X.blk s H scope (compEnvC scope cl C X.env) fp) tg g)
    (hd : TgD X.K g dg (own.map (·.2))) (hm : MonG g)
    (ht : ∀ (s : Shared) (H : Hp) (C : Addr) (cl : List (Str × Addr)) (fp : List Addr), PDTs (X.blk s H scope (compEnvC scope cl C X.env) fp) ifs tt)
    (he : ∀ (s : Shared) (H : Hp) (C : Addr) (cl : List (Str × Addr)) (fp : List Addr), PD (X.blk s H scope (compEnvC scope cl C X.env) fp) elt te)
    (hs : ∀ x, foldedSetIterable iter X.env x = pure x := by intro _; rfl) :
    PDS X (.Assign [.Name y py] (.ListComp elt [⟨tg, iter, ifs, 0⟩] scope pos) spos) (dAsg (dLc di dg tt te (own.map (·.2))) (sName i)) :=
  psImp (ps_setLc hc hN hy hyl hsw hi ok hg ht he hs) fun D σ H h => by
    obtain ⟨F, ds, ms, P, R, S, z1, z2⟩ := h
    exact lift_lc hd hm σ H _ ⟨F, ds, ms, _, R, S, z1, fun d m v F1 H1 p1 R1 s1 r1 => z2.1 _ m _ F1 H1 p1 R1 s1 ((S.mono s1.sub).set r1 i)⟩
end
def fAdd : OF := fun x y ms P => match x, y with
  | .int i, .int j => P (.int (i + j)) ms
  | .str i, .str j => i.length + j.length ≤ sizeLine ∧ P (.str (i ++ j)) ms
  | .lst a, .lst b => a.length + b.length ≤ sizeLine ∧ P (.lst (a ++ b)) ms
  | .opq (.ref p), .lst b => match look ms p with
    | some a => a.length + b.length ≤ sizeLine ∧ P (.lst (a ++ b)) ms
    | none => False
  | .tup a, .tup b => a.length + b.length ≤ sizeLine ∧ P (.tup (a ++ b)) ms
  | _, _ => False
def rAddD (K : PySem.W.Frag) : R2 := fun x y H Q => (∃ i j, x = .int i ∧ y = .int j ∧ Q (.int (i + j)) H) ∨ (∃ i j, x = .str i ∧ y = .str j ∧ i.length + j.length ≤ sizeLine ∧ Q (.str (i ++ j)) H) ∨ rCat x y H Q ∨ rCatA K x y H Q
theorem op_addD {X : Cx} : OpR X (binaryOp .Add) (rAddD X.K) := op_add.or (op_add_str.or (op_cat.or op_catA))
theorem DRs.nil_iff {K : PySem.W.Frag} {F : Hp} {vs : List V} {xs : List D} (r : DRs K F vs xs) : vs = [] ↔ xs = [] := by cases r <;> simp
theorem opd_add {K : PySem.W.Frag} : OpD K (rAddD K) fAdd := by
  intro F H ms x y dx dy P Q R rx ry h q
  have cat : ∀ {a b : Addr} {vs ws : List V} {xs ys : List D}, H a = some (.lst vs) → H b = some (.lst ws) → DRs K F vs xs → DRs K F ws ys → xs.length + ys.length ≤ sizeLine → P (.lst (xs ++ ys)) ms → rCat (.ref a) (.ref b) H Q := by
    intro a b vs ws xs ys h1 h2 r1 r2 hz hp
    refine ⟨a, b, vs, ws, rfl, rfl, h1, h2, by rw [r1.length, r2.length]; exact hz, fun p hp2 => ?_⟩
    exact q _ ms _ _ _ hp (R.new hp2) (Stp.new R hp2) (R.newLst hp2 (r1.append r2))
  cases rx with
  | int i => cases ry with
    | int j => exact .inl ⟨i, j, rfl, rfl, q _ ms _ F H h R Stp.refl (.int _)⟩
    | _ => exact h.elim
  | str i => cases ry with
    | str j => exact .inr (.inl ⟨i, j, rfl, rfl, h.1, q _ ms _ F H h.2 R Stp.refl (.str _)⟩)
    | _ => exact h.elim
  | lst h1 r1 => cases ry with
    | lst h2 r2 => exact .inr (.inr (.inl (cat (R.sub _ _ h1) (R.sub _ _ h2) r1 r2 h.1 h.2)))
    | _ => exact h.elim
  | tup h1 r1 => cases ry with
    | tup h2 r2 =>
      obtain ⟨z3, z4⟩ := h
      refine .inr (.inr (.inr ⟨_, _, _, _, rfl, rfl, R.sub.sqT h1, R.sub.sqT h2, by rw [r1.length, r2.length]; exact z3, fun e => ?_, fun _ e => ?_, fun _ _ p hp2 => ?_⟩))
      · cases r1.nil_iff.mp e
        exact q _ ms _ F H z4 R Stp.refl (.tup h2 r2)
      · cases r2.nil_iff.mp e
        rw [List.append_nil] at z4
        exact q _ ms _ F H z4 R Stp.refl (.tup h1 r1)
      · exact q _ ms _ _ _ z4 (R.new hp2) (Stp.new R hp2) (R.newTup hp2 (r1.append r2))
    | _ => exact h.elim
  | opq _ => cases x with
    | ref p => cases ry with
      | lst h2 r2 =>
        unfold fAdd at h
        cases e : look ms p with
        | none => simp only [e] at h
        | some a =>
          simp only [e] at h
          obtain ⟨_, vs, h1, r1⟩ := R.look e
          exact .inr (.inr (.inl (cat h1 (R.sub _ _ h2) r1 r2 h.1 h.2)))
      | _ => exact h.elim
    | _ => exact h.elim
  | _ => exact h.elim
def fSub : OF := fun x y ms P => fI (fun _ _ => True) (fun i j => .int (i - j)) x y ms P
theorem opd_sub {K : PySem.W.Frag} : OpD K (rI0 fun i j => .int (i - j)) fSub := opd_I0 fun _ _ _ => .int _
/-- * of ints, together below a million bits, or one of them below 2 ^ 64 -/
def CMulD (i j : Int) : Prop := CMulW i j ∨ CMul i j
theorem op_mulD {X : Cx} : OpR X (binaryOp .Mult) (rI CMulD fun i j => .int (i * j)) := opI fun _ _ _ _ _ _ _ hc q => mul_int q (hc.elim (·.ok) (·.ok))
def fMul : OF := fun x y ms P => match x, y with
  | .int i, .int j => CMulD i j ∧ P (.int (i * j)) ms
  | .lst a, .int k => (-(2 ^ 63) ≤ k ∧ k < 2 ^ 63 ∧ a.length * k.toNat ≤ sizeLine) ∧ P (.lst (List.replicate k.toNat a).flatten) ms
  | _, _ => False
def rMulD : R2 := fun x y H Q => rI CMulD (fun i j => .int (i * j)) x y H Q ∨ rRep x y H Q
theorem op_mulA {X : Cx} : OpR X (binaryOp .Mult) rMulD := op_mulD.or op_rep
theorem DRs.rep {K : PySem.W.Frag} {F : Hp} {vs : List V} {xs : List D} (r : DRs K F vs xs) : ∀ n : Nat, DRs K F (List.replicate n vs).flatten (List.replicate n xs).flatten
  | 0 => .nil
  | n + 1 => by rw [List.replicate_succ, List.replicate_succ, List.flatten_cons, List.flatten_cons]; exact r.append (DRs.rep r n)
theorem opd_mul {K : PySem.W.Frag} : OpD K rMulD fMul := by
  intro F H ms x y dx dy P Q R rx ry h q
  cases rx with
  | int i => cases ry with
    | int j => exact .inl ⟨i, j, rfl, rfl, h.1, q _ ms _ F H h.2 R Stp.refl (.int _)⟩
    | _ => exact h.elim
  | lst h1 r1 => cases ry with
    | int k =>
      obtain ⟨⟨z1, z2, z3⟩, z4⟩ := h
      refine .inr ⟨_, k, _, rfl, rfl, R.sub _ _ h1, z1, z2, by rw [r1.length]; exact z3, fun p hp => ?_⟩
      exact q _ ms _ _ _ z4 (R.new hp) (Stp.new R hp) (R.newLst hp (r1.rep _))
    | _ => exact h.elim
  | _ => exact h.elim
/-- // by a number that is not nought, below 2 ^ 9000 -/
def CDivA (_ j : Int) : Prop := j ≠ 0 ∧ j.natAbs.log2 < 9000
theorem op_fdivA {X : Cx} : OpR X (binaryOp .FloorDiv) (rI CDivA fun i j => .int (i.fdiv j)) := opI fun _ _ _ _ _ _ _ hc q => floordiv_int hc.1 q (.inl (PyProof.noPylong_of_log2 hc.2))
def fDiv : OF := fun x y ms P => fI CDivA (fun i j => .int (i.fdiv j)) x y ms P
theorem opd_div {K : PySem.W.Frag} : OpD K (rI CDivA fun i j => .int (i.fdiv j)) fDiv := opd_I (fun _ _ h => h) fun _ _ _ => .int _
def fMod : OF := fun x y ms P => fI (fun _ j => j ≠ 0) (fun i j => .int (i.fmod j)) x y ms P
theorem opd_mod {K : PySem.W.Frag} : OpD K (rI (fun _ j => j ≠ 0) fun i j => .int (i.fmod j)) fMod := opd_I (fun _ _ h => h) fun _ _ _ => .int _
def fPow : OF := fun x y ms P => fI CPow (fun i j => .int (i ^ j.toNat)) x y ms P
theorem opd_pow {K : PySem.W.Frag} : OpD K (rI CPow fun i j => .int (i ^ j.toNat)) fPow := opd_I (fun _ _ h => h) fun _ _ _ => .int _
def fLt : OF := fun x y ms P => fI (fun _ _ => True) (fun i j => .bl (decide (i < j))) x y ms P
def fLe : OF := fun x y ms P => fI (fun _ _ => True) (fun i j => .bl (decide (i ≤ j))) x y ms P
def fGt : OF := fun x y ms P => fI (fun _ _ => True) (fun i j => .bl (decide (j < i))) x y ms P
def fGe : OF := fun x y ms P => fI (fun _ _ => True) (fun i j => .bl (decide (j ≤ i))) x y ms P
theorem opd_lt {K : PySem.W.Frag} : OpD K (rI0 fun i j => .bl (decide (i < j))) fLt := opd_I0 fun _ _ _ => .bl _
theorem opd_le {K : PySem.W.Frag} : OpD K (rI0 fun i j => .bl (decide (i ≤ j))) fLe := opd_I0 fun _ _ _ => .bl _
theorem opd_gt {K : PySem.W.Frag} : OpD K (rI0 fun i j => .bl (decide (j < i))) fGt := opd_I0 fun _ _ _ => .bl _
mutual
def toPy : D → Option PyData
  | .non => some .none
  | .bl b => some (.bool b)
  | .int i => some (.int i)
  | .str x => some (.str x)
  | .lst xs => (toPys xs).map .list
  | .tup xs => (toPys xs).map .tuple
  | .fro xs => (toPys xs).map .list
  | .edic => some (.dict [])
  | .dct _ => none
  | .opq _ => none
  | .exc _ _ _ => none
def toPys : List D → Option (List PyData)
  | [] => some []
  | x :: r => match toPy x, toPys r with
    | some a, some b => some (a :: b)
    | _, _ => none
end
section
variable {X : Cx} {pins : List (Addr × Obj)} {σ : L2.St} {H F : Hp} {s : Shared}
/-- where lists and dicts of ours lie -/
def Our (K : PySem.W.Frag) (F : Hp) (b : Addr) : Prop := (∃ xs, SqL K F b xs) ∨ F b = some (.dK [])
theorem Our.not1 {K : PySem.W.Frag} {F : Hp} {b : Addr} (h : Our K F b) (o : OneR K F) : b ≠ sysModules := by
  rintro rfl
  obtain ⟨o1, o, φ, o2⟩ := o
  rcases h with ⟨xs, (h | ⟨ob, h⟩) | ⟨ob, its, n, h, _⟩⟩ | h
  · rw [o2] at h; cases h
  · rw [o2] at h; cases h
  · rw [o1] at h; cases h
  · rw [o2] at h; cases h
mutual
theorem DR.readsA (I : Inv X pins σ H s) (sb : Sub F H) : ∀ (d : D) (p : PyData) (v : V) (u : Value), DR X.K F v d → toPy d = some p → RelV v u → ∃ as, Reads s.heap u p as ∧ ∀ b ∈ as, Our X.K F b
  | .non, _, _, _, .non, h, r => by cases h; cases r; exact ⟨_, Reads.none, fun b hb => by cases hb⟩
  | .bl b, _, _, _, .bl _, h, r => by cases h; cases r; exact ⟨_, Reads.bool b, fun b hb => by cases hb⟩
  | .int i, _, _, _, .int _, h, r => by cases h; obtain ⟨t, rfl⟩ := r; exact ⟨_, Reads.int i t, fun b hb => by cases hb⟩
  | .str x, _, _, _, .str _, h, r => by cases h; obtain ⟨t, rfl⟩ := r; exact ⟨_, Reads.str x t, fun b hb => by cases hb⟩
  | .lst xs, p, _, _, .lst ha hs, h, r => by
    unfold toPy at h
    obtain ⟨ps, e, rfl⟩ := Option.map_eq_some_iff.mp h
    cases r
    obtain ⟨its, rv, ⟨o, n, ho, hc, _, hd⟩, _⟩ := I.list (SqL.of (sb _ _ ha))
    obtain ⟨as, hr, ou⟩ := DRs.readsA I sb xs ps _ its hs e rv
    refine ⟨_, Reads.list ho hc hd hr, fun b hb => ?_⟩
    rcases List.mem_cons.mp hb with rfl | hb
    · exact .inl ⟨_, SqL.of ha⟩
    · exact ou b hb
  | .fro xs, p, _, _, .fro ha hs, h, r => by
    unfold toPy at h
    obtain ⟨ps, e, rfl⟩ := Option.map_eq_some_iff.mp h
    cases r
    obtain ⟨its, rv, ⟨o, n, ho, hc, _, hd⟩, _⟩ := I.list (sb.sqL ha)
    obtain ⟨as, hr, ou⟩ := DRs.readsA I sb xs ps _ its hs e rv
    refine ⟨_, Reads.list ho hc hd hr, fun b hb => ?_⟩
    rcases List.mem_cons.mp hb with rfl | hb
    · exact .inl ⟨_, ha⟩
    · exact ou b hb
  | .tup xs, p, _, _, .tup ha hs, h, r => by
    unfold toPy at h
    obtain ⟨ps, e, rfl⟩ := Option.map_eq_some_iff.mp h
    cases r
    obtain ⟨its, rv, ⟨o, ho, hc, n, hd⟩, _⟩ := I.tuple (sb.sqT ha)
    obtain ⟨as, hr, ou⟩ := DRs.readsA I sb xs ps _ its hs e rv
    exact ⟨_, Reads.tuple ho hc hd hr, ou⟩
  | .edic, p, _, _, .edic ha, h, r => by
    cases h
    cases r
    obtain ⟨_, _, vs, kv, o, es, ep, h1, h2, h3, h4, h5, _⟩ := (show ObjOk X.prog X.w H s.heap _ (.dK []) from I.hok _ _ (sb _ _ ha))
    cases kv
    have e0 : es.toList = [] := by
      generalize es.toList = l at h5
      cases h5
      rfl
    refine ⟨_, Reads.dict (kvs := []) h1 h2.1 h3 (by rw [e0]; exact .nil) (by rw [e0]; exact .nil), fun b hb => ?_⟩
    simp only [List.cons_append, List.append_nil, List.mem_cons, List.not_mem_nil, or_false] at hb
    subst hb
    exact .inr ha
  | .opq _, _, _, _, _, h, _ => by cases h
  | .dct _, _, _, _, _, h, _ => by cases h
  | .exc _ _ _, _, _, _, _, h, _ => by cases h
theorem DRs.readsA (I : Inv X pins σ H s) (sb : Sub F H) : ∀ (ds : List D) (ps : List PyData) (vs : List V) (us : List Value), DRs X.K F vs ds → toPys ds = some ps → Vals vs us → ∃ as, ReadsAll s.heap us ps as ∧ ∀ b ∈ as, Our X.K F b
  | [], _, _, _, .nil, h, r => by cases h; cases r; exact ⟨_, ReadsAll.nil, fun b hb => by cases hb⟩
  | d :: ds, ps, _, _, .cons h1 h2, h, r => by
    unfold toPys at h
    cases e1 : toPy d with
    | none => simp only [e1] at h; cases h
    | some a =>
      cases e2 : toPys ds with
      | none => simp only [e1, e2] at h; cases h
      | some b =>
        simp only [e1, e2] at h
        cases h
        cases r with
        | cons r1 r2 =>
          obtain ⟨as, q1, o1⟩ := DR.readsA I sb d a _ _ h1 e1 r1
          obtain ⟨bs, q2, o2⟩ := DRs.readsA I sb ds b _ _ h2 e2 r2
          refine ⟨_, ReadsAll.cons q1 q2, fun b hb => ?_⟩
          rcases List.mem_append.mp hb with hb | hb
          · exact o1 b hb
          · exact o2 b hb
end
theorem DR.reads (I : Inv X pins σ H s) (sb : Sub F H) (d : D) (p : PyData) (v : V) (u : Value) (r : DR X.K F v d) (e : toPy d = some p) (ru : RelV v u) : ∃ as, Reads s.heap u p as := (DR.readsA I sb d p v u r e ru).imp fun _ h => h.1
end
end DL
namespace DL
open PySem PySem.Spec PyProof.Rows L2
def ShD (d : D) : Prop := ∃ p, toPy d = some p ∧ SeqAt.shaped p = true
def eqD (x y : D) : Bool := match toPy x, toPy y with
  | some p, some q => PyData.eqv p q
  | _, _ => false
def fEq : OF := fun x y ms P => match x, y with
  | .int i, .int j => P (.bl (i == j)) ms
  | .str i, .str j => P (.bl (i == j)) ms
  | .lst a, .lst [] => P (.bl a.isEmpty) ms
  | _, _ => ShD x ∧ ShD y ∧ P (.bl (eqD x y)) ms
def fNe : OF := fun x y ms P => match x, y with
  | .int i, .int j => P (.bl (!(i == j))) ms
  | .str i, .str j => P (.bl (!(i == j))) ms
  | .lst a, .lst [] => P (.bl (!a.isEmpty)) ms
  | _, _ => ShD x ∧ ShD y ∧ P (.bl (!eqD x y)) ms
def rEqF (K : PySem.W.Frag) (neg : Bool) : R2 := fun x y H Q => ∃ F dx dy, Sub F H ∧ DR K F x dx ∧ DR K F y dy ∧ ShD dx ∧ ShD dy ∧ Q (.bl (if neg then !eqD dx dy else eqD dx dy)) H
theorem op_eqF' {X : Cx} (hu : X.A.units + 64 < cLine) : OpR X (compareOp .Eq) (rEqF X.K false) := by
  intro pins s σ H x y v u Q I rx ry h
  obtain ⟨F, dx, dy, sb, hx, hy, ⟨p, e1, z1⟩, ⟨q, e2, z2⟩, h⟩ := h
  obtain ⟨as, r1⟩ := DR.reads I sb dx p x v hx e1 rx
  obtain ⟨bs, r2⟩ := DR.reads I sb dy q y u hy e2 ry
  have e : eqD dx dy = PyData.eqv p q := by unfold eqD; rw [e1, e2]
  exact SeqAt.compareEq_shaped r1 r2 z1 z2 hu ⟨.bl _, H, I, rfl, by rw [← e]; exact h⟩
theorem op_neF' {X : Cx} (hu : X.A.units + 64 < cLine) : OpR X (compareOp .NotEq) (rEqF X.K true) := by
  intro pins s σ H x y v u Q I rx ry h
  obtain ⟨F, dx, dy, sb, hx, hy, ⟨p, e1, z1⟩, ⟨q, e2, z2⟩, h⟩ := h
  obtain ⟨as, r1⟩ := DR.reads I sb dx p x v hx e1 rx
  obtain ⟨bs, r2⟩ := DR.reads I sb dy q y u hy e2 ry
  have e : eqD dx dy = PyData.eqv p q := by unfold eqD; rw [e1, e2]
  exact SeqAt.compareNe_shaped r1 r2 z1 z2 hu ⟨.bl _, H, I, rfl, by rw [← e]; exact h⟩
/-- a list beside an empty one: by how long it is -/
def rEqE (K : PySem.W.Frag) (neg : Bool) : R2 := fun x y H Q => ∃ F xs, Sub F H ∧ DR K F x (.lst xs) ∧ DR K F y (.lst []) ∧ Q (.bl (Bool.xor neg xs.isEmpty)) H
theorem op_eqE {X : Cx} (hu : X.A.units + 64 < cLine) : OpR X (compareOp .Eq) (rEqE X.K false) := by
  intro pins s σ H x y v u Q I rx ry h
  obtain ⟨F, xs, sb, hx, hy, h⟩ := h
  cases xs with
  | nil =>
    obtain ⟨as, r1⟩ := DR.reads I sb (.lst []) (.list []) x v hx rfl rx
    obtain ⟨bs, r2⟩ := DR.reads I sb (.lst []) (.list []) y u hy rfl ry
    exact SeqAt.compareEq_shaped r1 r2 rfl rfl hu ⟨.bl true, H, I, rfl, h⟩
  | cons d r =>
    cases hx with
    | lst ha hs => cases hy with
      | lst hb hs2 =>
        cases rx; cases ry
        obtain ⟨i1, v1, ⟨o1, n1, p1, c1, _, d1⟩, _⟩ := I.list (SqL.of (sb _ _ ha))
        obtain ⟨i2, v2, ⟨o2, n2, p2, c2, _, d2⟩, _⟩ := I.list (SqL.of (sb _ _ hb))
        have l1 : i1.length = r.length + 1 := by rw [← v1.length, hs.length]; rfl
        have l2 : i2.length = 0 := by rw [← v2.length, hs2.length]; rfl
        exact PySem.SeqAt.eq_list_lengthsAt ⟨o1, p1, c1, n1, d1⟩ ⟨o2, p2, c2, n2, d2⟩ (by rw [List.size_toArray, List.size_toArray, l1, l2]; rfl) (by omega) ⟨.bl false, H, I, rfl, h⟩
theorem op_neE {X : Cx} (hu : X.A.units + 64 < cLine) : OpR X (compareOp .NotEq) (rEqE X.K true) := by
  intro pins s σ H x y v u Q I rx ry h
  obtain ⟨F, xs, sb, hx, hy, h⟩ := h
  cases xs with
  | nil =>
    obtain ⟨as, r1⟩ := DR.reads I sb (.lst []) (.list []) x v hx rfl rx
    obtain ⟨bs, r2⟩ := DR.reads I sb (.lst []) (.list []) y u hy rfl ry
    exact SeqAt.compareNe_shaped r1 r2 rfl rfl hu ⟨.bl false, H, I, rfl, h⟩
  | cons d r =>
    cases hx with
    | lst ha hs => cases hy with
      | lst hb hs2 =>
        cases rx; cases ry
        obtain ⟨i1, v1, ⟨o1, n1, p1, c1, _, d1⟩, _⟩ := I.list (SqL.of (sb _ _ ha))
        obtain ⟨i2, v2, ⟨o2, n2, p2, c2, _, d2⟩, _⟩ := I.list (SqL.of (sb _ _ hb))
        have l1 : i1.length = r.length + 1 := by rw [← v1.length, hs.length]; rfl
        have l2 : i2.length = 0 := by rw [← v2.length, hs2.length]; rfl
        exact PySem.SeqAt.RcNeAt.lists_lengths ⟨o1, p1, c1, n1, d1⟩ ⟨o2, p2, c2, n2, d2⟩ (by rw [List.size_toArray, List.size_toArray, l1, l2]; rfl) (by omega) _ _ _ _ ⟨.bl true, H, I, rfl, h⟩
def rEqA (K : PySem.W.Frag) : R2 := fun x y H Q => rEqF K false x y H Q ∨ (rEqE K false x y H Q ∨ rEq x y H Q)
def rNeA (K : PySem.W.Frag) : R2 := fun x y H Q => rEqF K true x y H Q ∨ (rEqE K true x y H Q ∨ rNe x y H Q)
theorem op_eqF {X : Cx} (hu : X.A.units + 64 < cLine) : OpR X (compareOp .Eq) (rEqA X.K) := (op_eqF' hu).or ((op_eqE hu).or op_eq)
theorem op_neF {X : Cx} (hu : X.A.units + 64 < cLine) : OpR X (compareOp .NotEq) (rNeA X.K) := (op_neF' hu).or ((op_neE hu).or op_ne)
theorem opd_eq {K : PySem.W.Frag} : OpD K (rEqA K) fEq := fun F H ms x y dx dy P Q R rx ry h q => by
  have gen : ShD dx ∧ ShD dy ∧ P (.bl (eqD dx dy)) ms → rEqA K x y H Q := fun h => .inl ⟨F, dx, dy, R.sub, rx, ry, h.1, h.2.1, q _ ms _ F H h.2.2 R Stp.refl (.bl _)⟩
  cases rx with
  | int i => cases ry with
    | int j => exact .inr (.inr ⟨rfl, by rw [dec_int]; exact q _ ms _ F H h R Stp.refl (.bl _)⟩)
    | _ => exact gen h
  | str i => cases ry with
    | str j => exact .inr (.inr ⟨rfl, by rw [dec_str]; exact q _ ms _ F H h R Stp.refl (.bl _)⟩)
    | _ => exact gen h
  | lst ha hs => cases ry with
    | lst hb hs2 =>
      rename_i ys
      cases ys with
      | nil => exact .inr (.inl ⟨F, _, R.sub, .lst ha hs, .lst hb hs2, by rw [Bool.false_xor]; exact q _ ms _ F H h R Stp.refl (.bl _)⟩)
      | cons _ _ => exact gen h
    | _ => exact gen h
  | _ => exact gen h
theorem opd_ne {K : PySem.W.Frag} : OpD K (rNeA K) fNe := fun F H ms x y dx dy P Q R rx ry h q => by
  have gen : ShD dx ∧ ShD dy ∧ P (.bl (!eqD dx dy)) ms → rNeA K x y H Q := fun h => .inl ⟨F, dx, dy, R.sub, rx, ry, h.1, h.2.1, q _ ms _ F H h.2.2 R Stp.refl (.bl _)⟩
  cases rx with
  | int i => cases ry with
    | int j => exact .inr (.inr ⟨rfl, by rw [dec_int]; exact q _ ms _ F H h R Stp.refl (.bl _)⟩)
    | _ => exact gen h
  | str i => cases ry with
    | str j => exact .inr (.inr ⟨rfl, by rw [dec_str]; exact q _ ms _ F H h R Stp.refl (.bl _)⟩)
    | _ => exact gen h
  | lst ha hs => cases ry with
    | lst hb hs2 =>
      rename_i ys
      cases ys with
      | nil => exact .inr (.inl ⟨F, _, R.sub, .lst ha hs, .lst hb hs2, by rw [Bool.true_xor]; exact q _ ms _ F H h R Stp.refl (.bl _)⟩)
      | cons _ _ => exact gen h
    | _ => exact gen h
  | _ => exact gen h
def fIx : OF := fun x y ms P => match y with
  | .int i => (match x with
    | .tup xs => (match atI xs i with
      | some d => P d ms
      | none => False)
    | .str z => z.length ≤ sizeLine ∧ (match atI z.cps.toList i with
      | some c => P (.str ⟨#[c]⟩) ms
      | none => False)
    | _ => (match asL x ms with
      | some xs => (match atI xs i with
        | some d => P d ms
        | none => False)
      | none => False))
  | _ => False
theorem DRs.at {K : PySem.W.Frag} {F : Hp} {vs : List V} {xs : List D} {i : Int} {d : D} (r : DRs K F vs xs) (h : atI xs i = some d) : ∃ v, atI vs i = some v ∧ DR K F v d := by
  unfold atI at h ⊢
  rw [r.length]
  cases e : ixN xs.length i with
  | none => rw [e] at h; cases h
  | some j =>
    rw [e] at h
    exact r.get h
theorem opd_ix {K : PySem.W.Frag} : OpD K (rIx K) fIx := by
  intro F H ms x y dx dy P Q R rx ry h q
  cases ry with
  | int i =>
    unfold fIx at h
    have lst : ∀ {xs : List D}, asL dx ms = some xs → (match atI xs i with | some d => P d ms | none => False) → rIx K x (.int i) H Q := by
      intro xs e h
      obtain ⟨a, vs, rfl, hs, rs⟩ := R.asL rx e
      cases e2 : atI xs i with
      | none => rw [e2] at h; exact h.elim
      | some d =>
        rw [e2] at h
        obtain ⟨v, h1, h2⟩ := rs.at e2
        exact .inl ⟨a, vs, i, v, rfl, rfl, hs, h1, q d ms v F H h R Stp.refl h2⟩
    cases rx with
    | tup ha hs =>
      rename_i xs
      simp only at h
      cases e2 : atI xs i with
      | none => rw [e2] at h; exact h.elim
      | some d =>
        rw [e2] at h
        obtain ⟨v, h1, h2⟩ := hs.at e2
        exact .inr (.inl ⟨_, _, i, v, rfl, rfl, R.sub.sqT ha, h1, q d ms v F H h R Stp.refl h2⟩)
    | str z =>
      simp only at h
      obtain ⟨hz, h⟩ := h
      cases e2 : atI z.cps.toList i with
      | none => rw [e2] at h; exact h.elim
      | some c =>
        rw [e2] at h
        exact .inr (.inr ⟨z, i, c, rfl, rfl, hz, e2, q _ ms _ F H h R Stp.refl (.str _)⟩)
    | lst ha hs => exact lst rfl h
    | fro ha hs => exact lst rfl h
    | opq _ =>
      simp only at h
      cases e : asL (.opq x) ms with
      | none => rw [e] at h; exact h.elim
      | some xs => rw [e] at h; exact lst e h
    | _ => exact h.elim
  | _ => exact h.elim
def put : MS → Addr → List D → MS
  | [], _, _ => []
  | (q, xs) :: r, p, ys => if q = p then (q, ys) :: r else (q, xs) :: put r p ys
theorem put_fst : ∀ (ms : MS) (p : Addr) (ys : List D), (put ms p ys).map (·.1) = ms.map (·.1)
  | [], _, _ => rfl
  | (q, xs) :: r, p, ys => by
    unfold put
    split
    · rfl
    · rw [List.map_cons, List.map_cons, put_fst r p ys]
theorem put_mem : ∀ {ms : MS} {p : Addr} {ys : List D}, (ms.map (·.1)).Nodup → ∀ e ∈ put ms p ys, (e.1 = p ∧ e.2 = ys) ∨ (e ∈ ms ∧ e.1 ≠ p)
  | [], _, _, _, _, h => by cases h
  | (q, xs) :: r, p, ys, nd, e, h => by
    rw [List.map_cons, List.nodup_cons] at nd
    unfold put at h
    split at h
    · rename_i hq
      rcases List.mem_cons.mp h with rfl | h
      · exact .inl ⟨hq, rfl⟩
      · refine .inr ⟨List.mem_cons_of_mem _ h, fun z => nd.1 ?_⟩
        show q ∈ _
        rw [hq, ← z]
        exact List.mem_map_of_mem h
    · rename_i hq
      rcases List.mem_cons.mp h with rfl | h
      · exact .inr ⟨List.mem_cons_self, hq⟩
      · rcases put_mem nd.2 e h with z | z
        · exact .inl z
        · exact .inr ⟨List.mem_cons_of_mem _ z.1, z.2⟩
theorem look_put_same : ∀ {ms : MS} {p : Addr} {xs ys : List D}, look ms p = some xs → look (put ms p ys) p = some ys
  | [], _, _, _, h => by cases h
  | (q, zs) :: r, p, xs, ys, h => by
    unfold look at h
    unfold put
    by_cases e : q = p
    · rw [if_pos e, look, if_pos e]
    · rw [if_neg e] at h ⊢
      rw [look, if_neg e]
      exact look_put_same h
theorem look_put_ne : ∀ {ms : MS} {p q : Addr} {ys : List D}, p ≠ q → look (put ms p ys) q = look ms q
  | [], _, _, _, _ => rfl
  | (r, zs) :: ms, p, q, ys, h => by
    unfold put
    by_cases e : r = p
    · subst e
      rw [if_pos rfl, look, look, if_neg h, if_neg h]
    · rw [if_neg e, look, look, look_put_ne h]
section
variable {K : PySem.W.Frag} {F H : Hp} {ms : MS}
theorem relPut (R : Rel K F H ms) {p : Addr} {xs ys : List D} {ws : List V} (h : look ms p = some xs) (r : DRs K F ws ys) : Rel K F (upd H p (.lst ws)) (put ms p ys) := by
  obtain ⟨hF, vs, hH, _⟩ := R.look h
  refine ⟨fun b u e => ?_, fun e he => ?_, by rw [put_fst]; exact R.nd, R.one⟩
  · rw [upd_ne fun z => by rw [z, hF] at e; cases e]; exact R.sub b u e
  · rcases put_mem R.nd e he with ⟨z1, z2⟩ | ⟨z1, z2⟩
    · rw [z1, z2]; exact ⟨hF, ws, upd_same, r⟩
    · obtain ⟨y1, us, y2, y3⟩ := R.mu e z1
      exact ⟨y1, us, by rw [upd_ne z2]; exact y2, y3⟩
theorem stpPut (R : Rel K F H ms) {p : Addr} {xs ys : List D} {ws : List V} (h : look ms p = some xs) : Stp F H ms F (upd H p (.lst ws)) (put ms p ys) := by
  refine ⟨Sub.refl F, fun a u z1 z2 z3 => ?_, fun _ _ h => .inl h, fun e he => .inl ?_⟩
  · rw [upd_ne fun z => z3 _ (look_mem h) z.symm]; exact z1
  · have := List.mem_map_of_mem (f := (·.1)) he
    rw [put_fst] at this
    obtain ⟨q, hq, z⟩ := List.mem_map.mp this
    exact ⟨q, hq, z⟩
end
def dSetIx (do_ di dv : DE) : DTS := fun E ds ms => dv ds ms fun v m1 => do_ ds m1 fun o m2 => di ds m2 fun i m3 => match o, i with
  | .opq (.ref p), .int k => (match look m3 p with
    | some xs => (match ixN xs.length k with
      | some j => E.nx ds (put m3 p (xs.set j v))
      | none => False)
    | none => False)
  | _, _ => False
section
variable {X : Cx} {o i e : Expr} {do_ di dv : DE} {pos spos : Pos}
theorem pds_setIx (he : PD X e dv) (ho : PD X o do_) (hi : PD X i di)
    (ha : ∀ v, assign (.Subscript o i pos) X.env v = (do
      let ov ← holding [v] (eval o X.env)
      let iv ← holding [v, ov] (eval i X.env)
      standAt pos
      holding [v, ov, iv] (setItem ov iv v)
      release [v, ov, iv] []) := by intro _; rfl)
    (hs : swapsWithSole [.Subscript o i pos] e spos.line X.env = pure false := by rfl) (hw : swappedStores [.Subscript o i pos] e X.env = pure none := by rfl)
    (h1 : (assignEach [.Subscript o i pos] X.env).map (·.2) = [assign (.Subscript o i pos) X.env] := by rfl) : PDS X (.Assign [.Subscript o i pos] e spos) (dSetIx do_ di dv) :=
  psImp (ps_asg he (pg_sub ho hi set_list ha) hs hw h1) fun D σ H ⟨F, ds, ms, E, R, S, h, n, r, k, q⟩ =>
    ⟨F, ds, ms, _, R, S, h, fun d m1 v F1 H1 p1 R1 s1 r1 => ⟨F1, ds, m1, _, R1, S.mono s1.sub, p1, fun do' m2 o' F2 H2 p2 R2 s2 r2 =>
      ⟨F2, ds, m2, _, R2, S.mono (s1.trans s2).sub, p2, fun di' m3 i' F3 H3 p3 R3 s3 r3 => by
        match do', di', p3, r2, r3 with
        | .opq (.ref p), .int kk, p3, r2, .int _ =>
          cases r2
          cases e1 : look m3 p with
          | none => simp only [e1] at p3
          | some xs =>
            simp only [e1] at p3
            cases e2 : ixN xs.length kk with
            | none => simp only [e2] at p3
            | some j =>
              simp only [e2] at p3
              obtain ⟨hF, vs, hH, rs⟩ := R3.look e1
              refine ⟨p, vs, kk, j, rfl, rfl, hH, by rw [rs.length]; exact e2, ?_⟩
              have s13 := (s1.trans s2).trans s3
              exact n ds _ σ F3 _ p3 (relPut R3 e1 (rs.set ((r1.mono s2.sub).mono s3.sub) j)) (s13.trans (stpPut R3 e1)) (S.mono s13.sub)⟩⟩⟩
end
def dAppend (dx : DE) (aa : DA) : DE := fun ds ms P => dx ds ms fun x m1 => match x with
  | .opq (.ref p) => (∃ xs0, look m1 p = some xs0) ∧ aa ds m1 fun ys m2 => (match ys with
    | [y] => (match look m2 p with
      | some xs => xs.length < sizeLine ∧ P .non (put m2 p (xs ++ [y]))
      | none => False)
    | _ => False)
  | _ => False
section
variable {X : Cx} {o e : Expr} {dx : DE} {aa : DA} {apos cpos : Pos}
theorem pd_append (ho : PD X o dx) (ha : PDA X [e] aa)
    (hbase : attributeBase o "append" X.env (eval o X.env) = eval o X.env := by rfl)
    (hfew : ((backTo cpos (starEach [e] X.env)).all (fun x => !x.1) && (backToKw cpos (keywordEach [] X.env)).all (fun x => x.1.isSome) && decide ([e].length + ([] : List Keyword).length + (if ([] : List Keyword).isEmpty then 0 else 1) < 30)) = true := by rfl)
    (hline : (apos.endLine == cpos.line) = true := by rfl) (hs : starEach [e] X.env = (false, eval e X.env) :: starEach [] X.env := by rfl) (hplain : (backTo cpos (starEach [] X.env)).any (·.1) = false := by rfl) :
    PD X (.Call (.Attribute o "append" apos) [e] [] cpos) (dAppend dx aa) :=
  peImp (pe_bm PySem.F.plainAttrs_list PySem.F.slot_list_append PySem.F.type_list_append mt_append ho ha hbase hfew hline hs hplain) fun σ H Q ⟨F, ds, ms, P, R, S, h1, h2⟩ =>
    ⟨F, ds, ms, _, R, S, h1, fun x m1 v F1 H1 p1 R1 s1 r1 => by
      match x, p1, r1 with
      | .opq (.ref p), ⟨⟨xs0, e0⟩, h⟩, r1 =>
        cases r1
        obtain ⟨hF, vs, hH, rs⟩ := R1.look e0
        refine ⟨.inl ⟨rfl, vs, SqL.of hH⟩, F1, ds, m1, _, R1, S.mono s1.sub, h, fun ys m2 ws F2 H2 p2 R2 s2 r2 => ?_⟩
        match ys, r2, p2 with
        | [y], .cons ry .nil, p3 =>
          cases e1 : look m2 p with
          | none => simp only [e1] at p3
          | some xs =>
            simp only [e1] at p3
            obtain ⟨hF2, vs2, hH2, rs2⟩ := R2.look e1
            exact ⟨p, vs2, _, rfl, rfl, hH2, by rw [rs2.length]; exact p3.1, h2 _ _ _ F2 _ p3.2 (relPut R2 e1 (rs2.append (.cons ry .nil))) ((s1.trans s2).trans (stpPut R2 e1)) .non⟩⟩
end
def drp : MS → Addr → MS
  | [], _ => []
  | (q, xs) :: r, p => if q = p then r else (q, xs) :: drp r p
theorem drp_sub : ∀ {ms : MS} {p : Addr}, ∀ e ∈ drp ms p, e ∈ ms
  | [], _, _, h => by cases h
  | (q, xs) :: r, p, e, h => by
    unfold drp at h
    split at h
    · exact List.mem_cons_of_mem _ h
    · rcases List.mem_cons.mp h with rfl | h
      · exact List.mem_cons_self
      · exact List.mem_cons_of_mem _ (drp_sub e h)
theorem drp_ne : ∀ {ms : MS} {p : Addr}, (ms.map (·.1)).Nodup → ∀ e ∈ drp ms p, e.1 ≠ p
  | [], _, _, _, h => by cases h
  | (q, xs) :: r, p, nd, e, h => by
    rw [List.map_cons, List.nodup_cons] at nd
    unfold drp at h
    split at h
    · rename_i hq
      exact fun z => nd.1 (by show q ∈ _; rw [hq, ← z]; exact List.mem_map_of_mem h)
    · rename_i hq
      rcases List.mem_cons.mp h with rfl | h
      · exact hq
      · exact drp_ne nd.2 e h
theorem drp_nd : ∀ {ms : MS} {p : Addr}, (ms.map (·.1)).Nodup → ((drp ms p).map (·.1)).Nodup
  | [], _, h => h
  | (q, xs) :: r, p, nd => by
    rw [List.map_cons, List.nodup_cons] at nd
    unfold drp
    split
    · exact nd.2
    · rw [List.map_cons, List.nodup_cons]
      refine ⟨fun z => nd.1 ?_, drp_nd nd.2⟩
      obtain ⟨e, he, ze⟩ := List.mem_map.mp z
      exact List.mem_map.mpr ⟨e, drp_sub e he, ze⟩
section
variable {K : PySem.W.Frag} {F H : Hp} {ms : MS}
theorem relFrz (R : Rel K F H ms) {p : Addr} {xs : List D} (h : look ms p = some xs) : ∃ vs, Rel K (upd F p (.lst vs)) H (drp ms p) ∧ Stp F H ms (upd F p (.lst vs)) H (drp ms p) ∧ DR K (upd F p (.lst vs)) (.ref p) (.lst xs) := by
  obtain ⟨hF, vs, hH, rs⟩ := R.look h
  have sF : Sub F (upd F p (.lst vs)) := Sub.new hF
  refine ⟨vs, ⟨fun b u e => ?_, fun e he => ?_, drp_nd R.nd, R.one.mono sF⟩, ⟨sF, fun a u h _ _ => h, fun a u e => ?_, fun e he => .inl ⟨e, drp_sub e he, rfl⟩⟩, .lst upd_same (rs.mono sF)⟩
  · by_cases hb : b = p
    · subst hb; rw [upd_same] at e; rw [hH]; exact e
    · rw [upd_ne hb] at e; exact R.sub b u e
  · obtain ⟨y1, us, y2, y3⟩ := R.mu e (drp_sub e he)
    exact ⟨by rw [upd_ne (drp_ne R.nd e he)]; exact y1, us, y2, y3.mono sF⟩
  · by_cases hb : a = p
    · subst hb; exact .inr (.inr ⟨_, look_mem h, rfl⟩)
    · rw [upd_ne hb] at e; exact .inl e
end
def dFrz (de : DE) : DE := fun ds ms P => de ds ms fun d m => match d with
  | .opq (.ref p) => (match look m p with
    | some xs => P (.lst xs) (drp m p)
    | none => False)
  | _ => False
theorem pd_frz {X : Cx} {e : Expr} {de : DE} (h : PD X e de) : PD X e (dFrz de) := peImp h fun σ H Q ⟨F, ds, ms, P, R, S, h1, h2⟩ =>
  ⟨F, ds, ms, _, R, S, h1, fun d m v F1 H1 p1 R1 s1 r1 => by
    match d, p1, r1 with
    | .opq (.ref p), p1, r1 =>
      cases r1
      cases e1 : look m p with
      | none => simp only [e1] at p1
      | some xs =>
        simp only [e1] at p1
        obtain ⟨vs, z1, z2, z3⟩ := relFrz R1 e1
        exact h2 _ _ _ _ _ p1 z1 (s1.trans z2) z3⟩
end DL
namespace DL
open PySem PySem.Spec PyProof.Rows L2
abbrev CF := List D → MS → (D → MS → Prop) → Prop
def CalD (K : PySem.W.Frag) (r : List V → Hp → VK → Prop) (f : CF) : Prop := ∀ (F H : Hp) (ms : MS) (vs : List V) (xs : List D) (P : D → MS → Prop) (Q : VK), Rel K F H ms → DRs K F vs xs → f xs ms P →
  (∀ d ms' v F' H', P d ms' → Rel K F' H' ms' → Stp F H ms F' H' ms' → DR K F' v d → Q v H') → r vs H Q
def dCB (f : CF) (aa : DA) : DE := fun ds ms P => aa ds ms fun xs m => f xs m P
section
variable {X : Cx} {K : PySem.W.Frag} {x : Str} {p pos : Pos} {e : Expr} {es : List Expr} {aa : DA} {id T : String} {r : List V → Hp → VK → Prop} {f : CF} {da : DE}
theorem lift_cb (hf : CalD K r f) : ∀ σ H Q, lift K (dCB f aa) σ H Q → tCB r (liftA K aa) σ H Q := fun σ H Q ⟨F, ds, ms, P, R, S, h1, h2⟩ =>
  ⟨F, ds, ms, _, R, S, h1, fun xs m vs F1 H1 p1 R1 s1 r1 => hf F1 H1 m vs xs P Q R1 r1 p1 fun d m2 v F2 H2 p2 R2 s2 r2 => h2 d m2 v F2 H2 p2 R2 (s1.trans s2) r2⟩
theorem pd_callB (hc : CallR X (.builtin id) r) (hf : CalD X.K r f) (hg : Gl X x) (hm : X.mg x = none) (hv : bootBuiltins x = some (.builtin id)) (ha : PDA X (e :: es) aa) (hn : x ≠ "__name__" := by decide) (hdb : (x == ("__debug__" : Str)) = false := by decide)
    (he : starEach (e :: es) X.env = (false, eval e X.env) :: starEach es X.env := by rfl) (hpl : (backTo pos (starEach es X.env)).any (·.1) = false := by rfl) : PD X (.Call (.Name x p) (e :: es) [] pos) (dCB f aa) :=
  peImp (pe_callB hc hg hm hv ha hn hdb he hpl) (lift_cb hf)
theorem pd_callTy (hc : CallR X (.type T) r) (hf : CalD X.K r f) (hg : Gl X x) (hm : X.mg x = none) (hv : bootBuiltins x = some (.type T)) (ha : PDA X (e :: es) aa) (hn : x ≠ "__name__" := by decide) (hdb : (x == ("__debug__" : Str)) = false := by decide)
    (he : starEach (e :: es) X.env = (false, eval e X.env) :: starEach es X.env := by rfl) (hpl : (backTo pos (starEach es X.env)).any (·.1) = false := by rfl) : PD X (.Call (.Name x p) (e :: es) [] pos) (dCB f aa) :=
  peImp (pe_callTy hc hg hm hv ha hn hdb he hpl) (lift_cb hf)
end
def cAbs : CF := fun xs ms P => match xs with
  | [.int i] => P (.int (if i < 0 then -i else i)) ms
  | _ => False
def cMax2 : CF := fun xs ms P => match xs with
  | [.int i, .int j] => P (.int (if j > i then j else i)) ms
  | _ => False
def cMin2 : CF := fun xs ms P => match xs with
  | [.int i, .int j] => P (.int (if j < i then j else i)) ms
  | _ => False
def cInt1 : CF := fun xs ms P => match xs with
  | [.int i] => P (.int i) ms
  | [.bl k] => P (.int (if k then 1 else 0)) ms
  | _ => False
def cLen : CF := fun xs ms P => match xs with
  | [.str z] => z.length ≤ sizeLine ∧ P (.int z.length) ms
  | [.tup ys] => P (.int ys.length) ms
  | [d] => (match asL d ms with
    | some ys => P (.int ys.length) ms
    | none => False)
  | _ => False
def cList : CF := fun xs ms P => match xs with
  | [.tup ys] => P (.lst ys) ms
  | [d] => (match asL d ms with
    | some ys => P (.lst ys) ms
    | none => False)
  | _ => False
def cTuple : CF := fun xs ms P => match xs with
  | [.tup ys] => P (.tup ys) ms
  | [d] => (match asL d ms with
    | some ys => P (.tup ys) ms
    | none => False)
  | _ => False
/-- the truths in a list, the ints in a list -/
def blsOf : List D → Option (List Bool)
  | [] => some []
  | .bl b :: r => (blsOf r).map (b :: ·)
  | _ :: _ => none
def intsOf : List D → Option (List Int)
  | [] => some []
  | .int b :: r => (intsOf r).map (b :: ·)
  | _ :: _ => none
def cAll : CF := fun xs ms P => match xs with
  | [.lst ys] => (match blsOf ys with
    | some bs => P (.bl (bs.all id)) ms
    | none => False)
  | _ => False
def cAny : CF := fun xs ms P => match xs with
  | [.lst ys] => (match blsOf ys with
    | some bs => P (.bl (bs.any id)) ms
    | none => False)
  | _ => False
def cSum : CF := fun xs ms P => match xs with
  | [.lst ys] => (match intsOf ys with
    | some ns => P (.int ns.sum) ms
    | none => False)
  | _ => False
section
variable {X : Cx} {K : PySem.W.Frag} {F : Hp}
theorem DRs.bls : ∀ {vs : List V} {ys : List D} {bs : List Bool}, DRs K F vs ys → blsOf ys = some bs → vs = bs.map V.bl
  | _, _, _, .nil, h => by cases h; rfl
  | _, .bl b :: r, bs, .cons (.bl _) t, h => by
    unfold blsOf at h
    obtain ⟨cs, e, rfl⟩ := Option.map_eq_some_iff.mp h
    rw [List.map_cons, DRs.bls t e]
  | _, .non :: _, _, .cons _ _, h => by cases h
  | _, .int _ :: _, _, .cons _ _, h => by cases h
  | _, .str _ :: _, _, .cons _ _, h => by cases h
  | _, .lst _ :: _, _, .cons _ _, h => by cases h
  | _, .tup _ :: _, _, .cons _ _, h => by cases h
  | _, .fro _ :: _, _, .cons _ _, h => by cases h
  | _, .edic :: _, _, .cons _ _, h => by cases h
  | _, .dct _ :: _, _, .cons _ _, h => by cases h
  | _, .opq _ :: _, _, .cons _ _, h => by cases h
  | _, .exc _ _ _ :: _, _, .cons _ _, h => by cases h
theorem DRs.intsV : ∀ {vs : List V} {ys : List D} {bs : List Int}, DRs K F vs ys → intsOf ys = some bs → vs = bs.map V.int
  | _, _, _, .nil, h => by cases h; rfl
  | _, .int b :: r, bs, .cons (.int _) t, h => by
    unfold intsOf at h
    obtain ⟨cs, e, rfl⟩ := Option.map_eq_some_iff.mp h
    rw [List.map_cons, DRs.intsV t e]
  | _, .non :: _, _, .cons _ _, h => by cases h
  | _, .bl _ :: _, _, .cons _ _, h => by cases h
  | _, .str _ :: _, _, .cons _ _, h => by cases h
  | _, .lst _ :: _, _, .cons _ _, h => by cases h
  | _, .tup _ :: _, _, .cons _ _, h => by cases h
  | _, .fro _ :: _, _, .cons _ _, h => by cases h
  | _, .edic :: _, _, .cons _ _, h => by cases h
  | _, .dct _ :: _, _, .cons _ _, h => by cases h
  | _, .opq _ :: _, _, .cons _ _, h => by cases h
  | _, .exc _ _ _ :: _, _, .cons _ _, h => by cases h
theorem cal_max2 : CalD K (fun xs H Q => ∃ i j, xs = [.int i, .int j] ∧ Q (.int (if j > i then j else i)) H) cMax2 := fun F H ms vs xs P Q R r h q => by
  match xs, r, h with
  | [.int i, .int j], .cons (.int _) (.cons (.int _) .nil), h => exact ⟨i, j, rfl, q _ ms _ F H h R Stp.refl (.int _)⟩
theorem cal_min2 : CalD K (fun xs H Q => ∃ i j, xs = [.int i, .int j] ∧ Q (.int (if j < i then j else i)) H) cMin2 := fun F H ms vs xs P Q R r h q => by
  match xs, r, h with
  | [.int i, .int j], .cons (.int _) (.cons (.int _) .nil), h => exact ⟨i, j, rfl, q _ ms _ F H h R Stp.refl (.int _)⟩
theorem cal_int1 : CalD K (fun xs H Q => (∃ i, xs = [.int i] ∧ Q (.int i) H) ∨ ∃ k, xs = [.bl k] ∧ Q (.int (if k then 1 else 0)) H) cInt1 := fun F H ms vs xs P Q R r h q => by
  match xs, r, h with
  | [.int i], .cons (.int _) .nil, h => exact .inl ⟨i, rfl, q _ ms _ F H h R Stp.refl (.int _)⟩
  | [.bl i], .cons (.bl _) .nil, h => exact .inr ⟨i, rfl, q _ ms _ F H h R Stp.refl (.int _)⟩
theorem cal_len : CalD K (fun xs H Q => ∃ x n, xs = [x] ∧ LenV K x H n ∧ Q (.int n) H) cLen := fun F H ms vs xs P Q R r h q => by
  match xs, r, h with
  | a :: _ :: _, _, h => cases a <;> exact h.elim
  | [d], .cons (v := v) rd .nil, h =>
    have fin : ∀ {ys : List D}, asL d ms = some ys → P (.int ys.length) ms → ∃ x n, [v] = [x] ∧ LenV K x H n ∧ Q (.int n) H := by
      intro ys e hp
      obtain ⟨a, ws, rfl, h1, h2⟩ := R.asL rd e
      exact ⟨_, _, rfl, .inl ⟨ws, h1, rfl⟩, q _ ms _ F H (by rw [h2.length]; exact hp) R Stp.refl (.int _)⟩
    cases rd with
    | str z => exact ⟨_, _, rfl, ⟨h.1, rfl⟩, q _ ms _ F H h.2 R Stp.refl (.int _)⟩
    | tup ha hs => exact ⟨_, _, rfl, .inr ⟨_, R.sub.sqT ha, rfl⟩, q _ ms _ F H (by rw [hs.length]; exact h) R Stp.refl (.int _)⟩
    | lst ha hs => exact fin rfl h
    | fro ha hs => exact fin rfl h
    | opq _ =>
      unfold cLen at h
      simp only at h
      cases e : asL (.opq v) ms with
      | none => rw [e] at h; exact h.elim
      | some ys => rw [e] at h; exact fin e h
    | _ => exact h.elim
theorem cal_list : CalD K (fun xs H Q => ∃ p ys, xs = [.ref p] ∧ (SqL K H p ys ∨ SqT K H p ys) ∧ ∀ l, H l = none → Q (.ref l) (upd H l (.lst ys))) cList := fun F H ms vs xs P Q R r h q => by
  match xs, r, h with
  | a :: _ :: _, _, h => cases a <;> exact h.elim
  | [d], .cons (v := v) rd .nil, h =>
    have fin : ∀ {ys : List D}, asL d ms = some ys → P (.lst ys) ms → ∃ p zs, [v] = [V.ref p] ∧ (SqL K H p zs ∨ SqT K H p zs) ∧ ∀ l, H l = none → Q (.ref l) (upd H l (.lst zs)) := by
      intro ys e hp
      obtain ⟨a, ws, rfl, h1, h2⟩ := R.asL rd e
      exact ⟨_, _, rfl, .inl h1, fun l hl => q _ ms _ _ _ hp (R.new hl) (Stp.new R hl) (R.newLst hl h2)⟩
    cases rd with
    | tup ha hs => exact ⟨_, _, rfl, .inr (R.sub.sqT ha), fun l hl => q _ ms _ _ _ h (R.new hl) (Stp.new R hl) (R.newLst hl hs)⟩
    | lst ha hs => exact fin rfl h
    | fro ha hs => exact fin rfl h
    | opq _ =>
      unfold cList at h
      simp only at h
      cases e : asL (.opq v) ms with
      | none => rw [e] at h; exact h.elim
      | some ys => rw [e] at h; exact fin e h
    | _ => exact h.elim
theorem cal_all : CalD K (rAll K) cAll := fun F H ms vs xs P Q R r h q => by
  match xs, r, h with
  | [.lst ys], .cons (.lst ha hs) .nil, h =>
    unfold cAll at h
    cases e : blsOf ys with
    | none => simp only [e] at h
    | some bs =>
      simp only [e] at h
      have e2 := hs.bls e
      subst e2
      exact ⟨_, bs, rfl, SqL.of (R.sub _ _ ha), q _ ms _ F H h R Stp.refl (.bl _)⟩
theorem cal_any : CalD K (rAny K) cAny := fun F H ms vs xs P Q R r h q => by
  match xs, r, h with
  | [.lst ys], .cons (.lst ha hs) .nil, h =>
    unfold cAny at h
    cases e : blsOf ys with
    | none => simp only [e] at h
    | some bs =>
      simp only [e] at h
      have e2 := hs.bls e
      subst e2
      exact ⟨_, bs, rfl, SqL.of (R.sub _ _ ha), q _ ms _ F H h R Stp.refl (.bl _)⟩
theorem cal_sum : CalD K (rSum K) cSum := fun F H ms vs xs P Q R r h q => by
  match xs, r, h with
  | [.lst ys], .cons (.lst ha hs) .nil, h =>
    unfold cSum at h
    cases e : intsOf ys with
    | none => simp only [e] at h
    | some ns =>
      simp only [e] at h
      have e2 := hs.intsV e
      subst e2
      exact ⟨_, ns, rfl, SqL.of (R.sub _ _ ha), q _ ms _ F H h R Stp.refl (.int _)⟩
end
def Shw (d : D) : Prop := ∃ p, toPy d = some p ∧ p.showable = true ∧ p.depth ≤ 100 ∧ p.shown.length ≤ sizeLine
def repS (d : D) : Str := match toPy d with
  | some p => p.shown
  | none => default
def cRepr : CF := fun xs ms P => match xs with
  | [d] => Shw d ∧ P (.str (repS d)) ms
  | _ => False
def rRepr (K : PySem.W.Frag) : List V → Hp → VK → Prop := fun xs H Q => ∃ F x d, xs = [x] ∧ Sub F H ∧ OneR K F ∧ DR K F x d ∧ Shw d ∧ Q (.str (repS d)) H
theorem call_reprD {X : Cx} {k : Nat} (hr : RoomG k X.A) : CallR X (.builtin "repr") (rRepr X.K) := by
  intro pins s σ H xs us Q I r h
  obtain ⟨F, x, d, rfl, sb, one, hd, ⟨p, e, z1, z3, z4⟩, q⟩ := h
  obtain ⟨u, rfl, ru⟩ := vals1 r
  obtain ⟨as, rd, ou⟩ := DR.readsA I sb d p x u hd e ru
  have z2 : p.hasDict = true → sysModules ∉ as := fun _ hm => (ou _ hm).not1 one rfl
  have er : repS d = p.shown := by unfold repS; rw [e]
  rw [er] at q
  have hu : X.A.units + (p.depth + 1) < cLine := by have := hr.r.un; omega
  cases rd with
  | none => exact PySem.P.repr_of_none ⟨.str _, H, I.tok _, ⟨_, rfl⟩, q⟩
  | bool b => exact PySem.P.repr_of_bool ⟨.str _, H, I.tok _, ⟨_, rfl⟩, q⟩
  | int i t => exact PySem.P.repr_of_int (of_decide_eq_true z1) ⟨.str _, H, I.tok _, ⟨_, rfl⟩, q⟩
  | str y t => exact PySem.P.repr_of_str ⟨.str _, H, I.tok _, ⟨_, rfl⟩, q⟩ z4
  | list h1 h2 h3 h4 => exact repr_of_reads' (.list h1 h2 h3 h4) z1 z2 hr.g hu (fun _ _ e => e) (fun h' t tk hk => ⟨.str _, H, I.kept hk, ⟨_, rfl⟩, q⟩) z4
  | tuple h1 h2 h3 h4 => exact repr_of_reads' (.tuple h1 h2 h3 h4) z1 z2 hr.g hu (fun _ _ e => e) (fun h' t tk hk => ⟨.str _, H, I.kept hk, ⟨_, rfl⟩, q⟩) z4
  | dict h1 h2 h3 h4 h5 => exact repr_of_reads' (.dict h1 h2 h3 h4 h5) z1 z2 hr.g hu (fun _ _ e => e) (fun h' t tk hk => ⟨.str _, H, I.kept hk, ⟨_, rfl⟩, q⟩) z4
theorem cal_repr {K : PySem.W.Frag} : CalD K (rRepr K) cRepr := fun F H ms vs xs P Q R r h q => by
  match xs, r, h with
  | [d], .cons rd .nil, h => exact ⟨F, _, d, rfl, R.sub, R.one, rd, h.1, q _ ms _ F H h.2 R Stp.refl (.str _)⟩
inductive Ty where
  | non | bool | int | str | list | tuple | dict
  deriving DecidableEq
def Ty.nm : Ty → String
  | .non => "NoneType"
  | .bool => "bool"
  | .int => "int"
  | .str => "str"
  | .list => "list"
  | .tuple => "tuple"
  | .dict => "dict"
def tyD (d : D) : Option Ty := match d with
  | .non => some .non
  | .bl _ => some .bool
  | .int _ => some .int
  | .str _ => some .str
  | .lst _ => some .list
  | .tup _ => some .tuple
  | .edic => some .dict
  | _ => none
def subT (a b : Ty) : Bool := decide (a = b) || (decide (a = .bool) && decide (b = .int))
theorem subT_ok : ∀ a b : Ty, b ≠ .non → kitB a.nm b.nm = some (subT a b) := by
  intro a b h
  cases a <;> cases b <;> first | exact absurd rfl h | decide +kernel
def dIsi (T : Ty) (de : DE) : DE := fun ds ms P => de ds ms fun d m => match tyD d with
  | some a => P (.bl (subT a T)) m
  | none => False
theorem tyX_of {K : PySem.W.Frag} {F H : Hp} {ms : MS} {v : V} {d : D} {a : Ty} (R : Rel K F H ms) (r : DR K F v d) (h : tyD d = some a) : TyX K H v (.type a.nm) := by
  cases r with
  | non => cases h; exact .base .non
  | bl b => cases h; exact .base (.bl b)
  | int i => cases h; exact .base (.int i)
  | str x => cases h; exact .base (.str x)
  | lst ha hs => cases h; exact .base (.lst (R.sub _ _ ha))
  | tup ha hs =>
    cases h
    rcases R.sub.sqT ha with (z | ⟨o, z⟩) | ⟨o, its, n, z1, z2, _⟩
    · exact .base (.tup z)
    · exact .fTuple z
    · exact .kTuple z1 z2
  | edic ha => cases h; exact .base (.dK (R.sub _ _ ha))
  | _ => cases h
theorem pd_isi {X : Cx} {e : Expr} {de : DE} {x : Str} {p p2 pos : Pos} (T : Ty) (hT : T ≠ .non) (hg : Gl X "isinstance") (hm : X.mg "isinstance" = none) (hg2 : Gl X x) (hm2 : X.mg x = none) (hv : bootBuiltins x = some (.type T.nm)) (hn : x ≠ "__name__") (hd : (x == ("__debug__" : Str)) = false)
    (h : PD X e de) (he : starEach [e, .Name x p2] X.env = (false, eval e X.env) :: starEach [.Name x p2] X.env := by rfl) (hpl : (backTo pos (starEach [.Name x p2] X.env)).any (·.1) = false := by rfl) :
    PD X (.Call (.Name "isinstance" p) [e, .Name x p2] [] pos) (dIsi T de) :=
  peImp (pe_callB call_isi hg hm (by decide +kernel) (pa_cons h (pa_cons (pe_bltn (v := .ty T.nm) hg2 hm2 hv rfl hn hd) pa_nil) he) (by decide) (by decide) he hpl) fun σ H Q ⟨F, ds, ms, P, R, S, h1, h2⟩ =>
    ⟨F, ds, ms, _, R, S, h1, fun d m v F1 H1 p1 R1 s1 r1 => by
      cases e1 : tyD d with
      | none => rw [e1] at p1; exact p1.elim
      | some a =>
        rw [e1] at p1
        exact ⟨v, .ty T.nm, .type a.nm, .type T.nm, _, rfl, .ty _, tyX_of R1 r1 e1, kit_ty (subT_ok a T hT), h2 _ m _ F1 H1 p1 R1 s1 (.bl _)⟩⟩
abbrev DO := DS → MS → (Option Int → MS → Prop) → Prop
def liftO (K : PySem.W.Frag) (t : DO) : TO := fun σ H Q => ∃ F ds ms P, Rel K F H ms ∧ Sl K F σ ds ∧ t ds ms P ∧ ∀ o ms' F' H', P o ms' → Rel K F' H' ms' → Stp F H ms F' H' ms' → Q o H'
abbrev PDO (X : Cx) (e : Option Expr) (t : DO) : Prop := PO X e (liftO X.K t)
theorem poImp {X : Cx} {e : Option Expr} {t t' : TO} (h : PO X e t) (hi : ∀ σ H Q, t' σ H Q → t σ H Q) : PO X e t' := ⟨fun pins s σ H Q I hq => h.run pins s σ H Q I (hi σ H Q hq)⟩
def oNone : DO := fun _ ms P => P none ms
def oSome (de : DE) : DO := fun ds ms P => de ds ms fun d m => match d with
  | .int i => P (some i) m
  | _ => False
def cutL {α : Type} (xs : List α) (lo hi : Option Int) : List α := (xs.drop (HT.sIx xs.length 0 lo)).take (HT.sIx xs.length xs.length hi - HT.sIx xs.length 0 lo)
abbrev SF := D → Option Int → Option Int → MS → (D → MS → Prop) → Prop
def fSl : SF := fun x lo hi ms P => match x with
  | .str z => z.length ≤ sizeLine ∧ P (.str (cutS z lo hi)) ms
  | .tup xs => P (.tup (cutL xs lo hi)) ms
  | _ => (match asL x ms with
    | some xs => P (.lst (cutL xs lo hi)) ms
    | none => False)
def dSl (de : DE) (lo hi : DO) : DE := fun ds ms P => de ds ms fun x m1 => lo ds m1 fun l m2 => hi ds m2 fun u m3 => fSl x l u m3 P
section
variable {X : Cx} {K : PySem.W.Frag} {e : Expr} {de : DE} {lo hi : Option Expr} {tl th : DO} {p2 pos : Pos} {F : Hp}
theorem pdo_none : PDO X none oNone := poImp po_none fun σ H Q ⟨F, ds, ms, P, R, S, h1, h2⟩ => h2 none ms F H h1 R Stp.refl
theorem pdo_some (h : PD X e de) : PDO X (some e) (oSome de) := poImp (po_some h) fun σ H Q ⟨F, ds, ms, P, R, S, h1, h2⟩ =>
  ⟨F, ds, ms, _, R, S, h1, fun d m v F1 H1 p1 R1 s1 r1 => by
    cases r1 with
    | int i => exact ⟨i, rfl, h2 _ m F1 H1 p1 R1 s1⟩
    | _ => exact p1.elim⟩
theorem DRs.cut {vs : List V} {xs : List D} (r : DRs K F vs xs) (l u : Option Int) : DRs K F (cutV vs l u) (cutL xs l u) := by
  unfold cutV cutL
  rw [r.length]
  exact (r.drop _).take _
def rSlD (K : PySem.W.Frag) : V → Option Int → Option Int → Hp → VK → Prop := fun x l u H Q => rSlL K x l u H Q ∨ (rSlS x l u H Q ∨ rSlA K x l u H Q)
theorem sl_D : SlR X (rSlD X.K) := sl_list.or (sl_str.or sl_tupA)
theorem pd_slice (he : PD X e de) (hl : PDO X lo tl) (hu : PDO X hi th) : PD X (.Subscript e (.Slice lo hi none p2) pos) (dSl de tl th) := peImp (pe_slice sl_D he hl hu) fun σ H Q ⟨F, ds, ms, P, R, S, h1, h2⟩ =>
  ⟨F, ds, ms, _, R, S, h1, fun x m1 v F1 H1 p1 R1 s1 r1 => ⟨F1, ds, m1, _, R1, S.mono s1.sub, p1, fun l m2 F2 H2 p2 R2 s2 => ⟨F2, ds, m2, _, R2, S.mono (s1.trans s2).sub, p2, fun u m3 F3 H3 p3 R3 s3 => by
    have s13 := (s1.trans s2).trans s3
    have r3 := (r1.mono s2.sub).mono s3.sub
    have lst : ∀ {xs : List D}, asL x m3 = some xs → P (.lst (cutL xs l u)) m3 → rSlD X.K v l u H3 Q := by
      intro xs e1 hp
      obtain ⟨a, ws, rfl, z1, z2⟩ := R3.asL r3 e1
      exact .inl ⟨a, ws, rfl, z1, fun p hp2 => h2 _ m3 _ _ _ hp (R3.new hp2) (s13.trans (Stp.new R3 hp2)) (R3.newLst hp2 (z2.cut l u))⟩
    cases r3 with
    | str z => exact .inr (.inl ⟨z, rfl, p3.1, h2 _ m3 _ F3 H3 p3.2 R3 s13 (.str _)⟩)
    | tup ha hs =>
      refine .inr (.inr ⟨_, _, rfl, R3.sub.sqT ha, fun e => ?_, fun _ p hp2 => h2 _ m3 _ _ _ p3 (R3.new hp2) (s13.trans (Stp.new R3 hp2)) (R3.newTup hp2 (hs.cut l u))⟩)
      have p3 : P (.tup (cutL _ l u)) m3 := p3
      unfold cutL at p3
      rw [hs.length] at e
      rw [e.1, e.2, List.drop_zero, Nat.sub_zero, List.take_length] at p3
      exact h2 _ m3 _ F3 H3 p3 R3 s13 (.tup ha hs)
    | lst ha hs => exact lst rfl p3
    | fro ha hs => exact lst rfl p3
    | opq _ =>
      unfold fSl at p3
      simp only at p3
      cases e1 : asL (.opq v) m3 with
      | none => rw [e1] at p3; exact p3.elim
      | some xs => rw [e1] at p3; exact lst e1 p3
    | _ => exact p3.elim⟩⟩⟩
end
end DL
namespace DL
open PySem PySem.Spec PyProof.Rows L2
theorem bnd_of {K : PySem.W.Frag} {x qual : Str} {st : Stmt} {f : Addr} {fd : FuncData} {ps ks : List Str} {n : Nat} {is : List Nat} (F : Fun K x qual st f fd)
    (h : ∀ (kV doc pm : Value) (an : Option Addr) (cdv ct : Value) (us ws : List Value), us.length = n → ws.length = ks.length →
      bindArgs (PySem.W.fnOf x qual (defArgs st) (defBody st) (defScope st) .none kV doc pm an cdv ct) ⟨us, ks.zip ws⟩ = pure (ps.zip (pick is (us ++ ws)))) : Bnd K fd ps n ks is := by
  obtain ⟨oc, od, kV, doc, pm, an, cdv, ct, osl, e, lk, hcd⟩ := F.ex
  subst e
  exact ⟨fun s us ws _ h1 h2 => .of_eq (h kV doc pm an cdv ct us ws h1 h2)⟩
/-- the law's call at the heap behind the top -/
theorem lawG {P : Program} {w : World} {K : PySem.W.Frag} {mg mb : Str → Option Value} {k : Nat} {fa a : Addr} {fd : FuncData} {x : Str} {sp : Sp} {s1 : Shared} {vs : List Value} {ns : List Int}
    (KX : K.In s1.heap) (hns : s1.heap.Ns mainGlobals mg) (hb : s1.heap.Ns builtinsNs mb) (hk1 : K.lookup sysModules = none) (hs1 : s1.heap.NoSeer)
    (hbb : ∀ x : Str, x ≠ "__name__" → mb x = bootBuiltins x) (hlim : s1.heap.NoLimit) (hg : s1.gens = #[])
    (ha : s1.heap.get? a = some { cls := .type "list", data := .seq vs.toArray })
    (hi : IntsAre vs ns) (hl : ns.length ≤ sizeLine) (hr : Room k callerA)
    (G : ∀ base : Heap, K.In base → base.Ns mainGlobals mg → FnG P w K mg base k fa fd [x] sp)
    (hbind : ∀ (s : Shared) (u : Value), BindsTo s fd ⟨[u], []⟩ [(x, u)])
    (hsp : ∀ H : Hp, OneR K H → SqL K H a (ns.map V.int) → sp [.ref a] H (fun v _ => v = .bl true) E0) :
    codeAny (model P w) callerA (.call (.ref fa) ⟨[.ref a], []⟩)
      (fun r s' => r = .ok (.ret (.bool true)) ∧ OldK s1.heap s'.heap ∧ s'.os = s1.os ∧ AllBare s'.gens) s1 := by
  have rv : Vals (ns.map V.int) vs := vals_ints hi
  have lenV := hi.length
  obtain ⟨mm, ⟨om, esm, epm, hom, hdm, _⟩, _⟩ := hs1.mods
  have a1 : a ≠ sysModules := fun z => by
    rw [z, hom] at ha
    cases ha
    cases hdm
  have core : ∀ H : Hp, (∀ b, H b = none ∨ ∃ o u, H b = some (.frz o u)) → OneR K H → SqL K H a (ns.map V.int) → HOk P w H s1.heap → (∀ b, H b ≠ none → b = a ∨ b = sysModules) → (H a ≠ none → K.lookup a = none) →
      codeAny (model P w) callerA (.call (.ref fa) ⟨[.ref a], []⟩)
        (fun r s' => r = .ok (.ret (.bool true)) ∧ OldK s1.heap s'.heap ∧ s'.os = s1.os ∧ AllBare s'.gens) s1 := by
    intro H hO h1 hS hok hA hK
    have noA : ∀ {b : Addr} {o : Obj} {es : Array DictEntry} {ep : Nat}, b ≠ sysModules → s1.heap.get? b = some o → o.data = .dict es ep → H b = none := by
      intro b o es ep hb e d
      cases q : H b with
      | none => rfl
      | some u =>
        have e' : b = a := (hA b (by rw [q]; exact nofun)).resolve_right hb
        rw [e', ha] at e
        cases e
        cases d
    have nsK : ∀ {b : Addr} {m : Str → Option Value}, b ≠ sysModules → s1.heap.Ns b m → (hidT s1.heap H).Ns b m := by
      rintro b m hb ⟨o, es, ep, e, d, r⟩
      exact ⟨o, es, ep, hidT_get e (noA hb e d), d, r⟩
    have hKb : K.In (hidT s1.heap H) := by
      intro b o e
      refine hidT_get (KX b o e) ?_
      cases q : H b with
      | none => rfl
      | some u =>
        have nq : H b ≠ none := by rw [q]; exact nofun
        rcases hA b nq with e' | e'
        · rw [e'] at e nq
          rw [hK nq] at e
          cases e
        · rw [e', hk1] at e
          cases e
    have hM : Mod K mg (hidT s1.heap H) := by
      obtain ⟨mc, h1, h2⟩ := hlim
      exact ⟨hKb, nsK (by decide) hns, ⟨mb, nsK (by decide) hb, hbb⟩, ⟨mc, nsK (by decide) h1, h2⟩⟩
    have e0 : Env0 P w K mg (hidT s1.heap H) callerA [] s1 H := by
      refine ⟨rfl, hM, fun b o e => of_hidT e, Nat.le_of_eq (hidT_size _ _), trivial, fun b hb => ?_, hok, .of_eq hg⟩
      cases hb
    have run := (G _ hKb (nsK (by decide) hns)).go callerA [] s1 H ⟨[.ref a], []⟩ [.ref a] [.ref a] _ ⟨hr, rfl⟩ e0 (hbind s1 (.ref a)) (.cons rfl .nil) (hsp H h1 hS)
    refine codeAny_mono run fun r s' h => ?_
    match r, h with
    | .error e, h => exact h.elim
    | .ok .next, h => exact False.elim h
    | .ok .brk, h => exact False.elim h
    | .ok .cont, h => exact False.elim h
    | .ok (.ret u), h =>
      obtain ⟨v, H', os, bare, un, hok', r', q⟩ := h
      have q' : v = .bl true := q
      subst q'
      have r2 : u = Value.bool true := r'
      subst r2
      refine ⟨rfl, OldK.of_keep fun b o e => ?_, os, bare⟩
      cases q : H b with
      | none => exact un.keep b o e q (fun z => by cases z) (fun z => by cases z)
      | some u =>
        rcases hO b with z | ⟨ob, xs, z⟩
        · rw [q] at z; cases z
        · obtain ⟨e1, _⟩ := hok b _ z
          obtain ⟨e2, _⟩ := hok' b _ (un.frzs b ob _ z)
          rw [e] at e1
          cases e1
          exact e2
  have o1 : ∀ H : Hp, H sysModules = some (.frz om (.ext fun h => h.get? sysModules = some om)) → ObjOk P w H s1.heap sysModules (.frz om (.ext fun h => h.get? sysModules = some om)) := fun H _ =>
    ⟨hom, hom, ⟨om, hom⟩, fun h1 h2 z k => k _ z⟩
  cases hk : K.lookup a with
  | some o =>
    have e := KX a o hk
    rw [ha] at e
    cases e
    have hH : ∀ b u, (if b = sysModules then some (HO.frz om (.ext fun h => h.get? sysModules = some om)) else none) = some u → b = sysModules ∧ u = HO.frz om (.ext fun h => h.get? sysModules = some om) := by
      intro b u z
      by_cases hb : b = sysModules
      · rw [if_pos hb] at z; cases z; exact ⟨hb, rfl⟩
      · rw [if_neg hb] at z; cases z
    refine core (fun b => if b = sysModules then some (.frz om (.ext fun h => h.get? sysModules = some om)) else none) (fun b => ?_) ⟨hk1, om, _, if_pos rfl⟩ (.inr ⟨_, vs.toArray, _, hk, rfl, rfl, rfl, ?_, ?_⟩) (fun b u z => ?_) (fun b z => ?_) fun z => absurd (if_neg a1) z
    · by_cases hb : b = sysModules
      · exact .inr ⟨_, _, if_pos hb⟩
      · exact .inl (if_neg hb)
    · rw [List.size_toArray, lenV]; exact hl
    · rw [List.toList_toArray]; exact rv
    · obtain ⟨rfl, rfl⟩ := hH b u z
      exact o1 _ (if_pos rfl)
    · cases q : (if b = sysModules then some (HO.frz om (.ext fun h => h.get? sysModules = some om)) else none) with
      | none => exact absurd q z
      | some u => exact .inr (hH b u q).1
  | none =>
    have hH : ∀ b u, (if b = a then some (HO.frz { cls := .type "list", data := .seq vs.toArray } (.lst (ns.map V.int))) else if b = sysModules then some (HO.frz om (.ext fun h => h.get? sysModules = some om)) else none) = some u →
        (b = a ∧ u = HO.frz { cls := .type "list", data := .seq vs.toArray } (.lst (ns.map V.int))) ∨ (b = sysModules ∧ u = HO.frz om (.ext fun h => h.get? sysModules = some om)) := by
      intro b u z
      by_cases hb : b = a
      · rw [if_pos hb] at z; cases z; exact .inl ⟨hb, rfl⟩
      · rw [if_neg hb] at z
        by_cases hb2 : b = sysModules
        · rw [if_pos hb2] at z; cases z; exact .inr ⟨hb2, rfl⟩
        · rw [if_neg hb2] at z; cases z
    refine core (fun b => if b = a then some (.frz { cls := .type "list", data := .seq vs.toArray } (.lst (ns.map V.int))) else if b = sysModules then some (.frz om (.ext fun h => h.get? sysModules = some om)) else none) (fun b => ?_) ⟨hk1, om, _, (if_neg a1.symm).trans (if_pos rfl)⟩ (.inl (.inr ⟨_, if_pos rfl⟩)) (fun b u z => ?_) (fun b z => ?_) fun _ => hk
    · by_cases hb : b = a
      · exact .inr ⟨_, _, if_pos hb⟩
      · by_cases hb2 : b = sysModules
        · exact .inr ⟨_, _, (if_neg hb).trans (if_pos hb2)⟩
        · exact .inl ((if_neg hb).trans (if_neg hb2))
    · rcases hH b u z with ⟨rfl, rfl⟩ | ⟨rfl, rfl⟩
      · refine ⟨ha, ?_, vs, _, rv, ha⟩
        rw [List.length_map]; exact hl
      · exact o1 _ z
    · cases q : (if b = a then some (HO.frz { cls := .type "list", data := .seq vs.toArray } (.lst (ns.map V.int))) else if b = sysModules then some (HO.frz om (.ext fun h => h.get? sysModules = some om)) else none) with
      | none => exact absurd q z
      | some u => exact (hH b u q).imp (·.1) (·.1)
/-- what the head leaves, from the law's promise -/
theorem walkG {l : PySem.W.OpenLaw} {n k : Nat} {q : Program} {loose : List Str} {XP : (Str → Option Value) → Heap → Prop} {YP : World → Heap → Prop} {d : DefRec} {K : Params → PySem.W.Frag} {fs : FS} {x : Str}
    (hn : l.most = some n) (hn2 : n ≤ sizeLine) (hdf : d.params.defaults = []) (hr : Room k callerA) (hq : importsNone q = true) (hK1 : ∀ p : Params, (K p).lookup sysModules = none)
    (hY : ∀ (w : World) (h : Heap), YP w h → (K w.params).In h)
    (G : ∀ (w : World) (mg : Str → Option Value) (fa : Addr) (h : Heap), (K w.params).In h → h.Ns mainGlobals mg → mg d.name = some (.ref fa) →
      ∃ fd : FuncData, (∀ (s : Shared) (u : Value), BindsTo s fd ⟨[u], []⟩ [(x, u)]) ∧
        ∀ base : Heap, (K w.params).In base → base.Ns mainGlobals mg → FnG l.prog w (K w.params) mg base k fa fd [x] (spD (K w.params) fs))
    (hsp : ∀ ns : List Int, ns.length ≤ n → fs [.fro (ns.map D.int)] [] (fun v _ => v = .bl true)) :
    PySem.W.WalkO q loose XP YP l.row.toRowW d [] (fun f vs => PySem.call f vs) := by
  refine Att.attach_call hn hdf ?_
  intro w s0 s1 mg mb fa o pm cd doc a vs ns Gr Y ho hd hcd hmg hobj hints hlen hg
  have KX := hY w _ Y
  obtain ⟨fd, hb, hF⟩ := G w mg fa _ KX Gr.T.g hmg
  refine lawG KX Gr.T.g Gr.T.b (hK1 _) (Gr.T.seer hq) Gr.T.builtins Gr.T.nolimit hg hobj hints (Nat.le_trans hlen hn2) hr hF hb fun H h1 hS => ?_
  refine ⟨H, [.fro (ns.map D.int)], [], _, ⟨Sub.refl H, fun p hp => (by cases hp), List.nodup_nil, h1⟩, .cons (.fro hS (DRs.ints ns)) .nil, hsp ns hlen, ?_⟩
  intro e m v F' H' z R s r
  subst z
  cases r
  rfl
end DL
namespace DL
open PySem PySem.Spec PyProof.Rows L2
abbrev ZK := Str → List Str → List D → MS → Prop
abbrev FX := List D → MS → (D → MS → Prop) → ZK → Prop
def spX (K : PySem.W.Frag) (fs : FX) : Sp := fun vs H Q E => ∃ F ds ms P Z, Rel K F H ms ∧ DRs K F vs ds ∧ fs ds ms P Z ∧
  (∀ d ms' v F' H', P d ms' → Rel K F' H' ms' → Stp F H ms F' H' ms' → DR K F' v d → Q v H') ∧
  (∀ c ns xs ms' cv d ws F' H', Z c ns xs ms' → Rel K F' H' ms' → Stp F H ms F' H' ms' → PySem.W.nsIn K mainGlobals c = some (some cv) → XD F' d ns ws → DRs K F' ws xs → E cv d H')
structure FnX (P : Program) (w : World) (K : PySem.W.Frag) (mg : Str → Option Value) (base : Heap) (k : Nat) (f : Addr) (fd : FuncData) (ps : List Str) (sp : Sp) : Prop where
  len : ∀ vs H Q E, sp vs H Q E → vs.length = ps.length
  go : ∀ (A : Around) (outer : List Env) (s : Shared) (H : Hp) (args : Args) (us : List Value) (vs : List V) (Q : VK) (E : XK), RoomG k A → Env0 P w K mg base A outer s H →
    BindsTo s fd args (ps.zip us) → Vals vs us → sp vs H Q E → codeAny (model P w) A (.call (.ref f) args) (CR (L2.CX P w) outer P w H s Q E) s
/-- where nothing is raised -/
theorem FnX.plain {P : Program} {w : World} {K : PySem.W.Frag} {mg : Str → Option Value} {base : Heap} {k : Nat} {f : Addr} {fd : FuncData} {ps : List Str} {fx : FX} {fs : FS}
    (F : FnX P w K mg base k f fd ps (spX K fx)) (h : ∀ ds ms P, fs ds ms P → fx ds ms P fun _ _ _ _ => False) : FnG P w K mg base k f fd ps (spD K fs) := by
  have hc : ∀ vs H Q E, spD K fs vs H Q E → spX K fx vs H Q E0 := fun vs H Q E ⟨F0, ds, ms, P0, R, r, q, z⟩ => ⟨F0, ds, ms, P0, _, R, r, h _ _ _ q, z, fun _ _ _ _ _ _ _ _ _ y => y.elim⟩
  refine ⟨fun vs H Q E q => F.len vs H Q E0 (hc vs H Q E q), fun A outer s H args us vs Q hr e0 hb r q => ?_⟩
  refine codeAny_mono (F.go A outer s H args us vs Q E0 hr e0 hb r (hc vs H Q E0 q)) fun r s' z => ?_
  match r, z with
  | .ok (.ret _), z => exact z
  | .ok .next, z => exact z
  | .ok .brk, z => exact z
  | .ok .cont, z => exact z
  | .error e, z =>
    obtain ⟨_, _, _, _, _, _, _, _, _, _, _, _, y⟩ := z
    exact y.elim
def liftX (K : PySem.W.Frag) (W : WX) (t : DTS) : TS := fun D σ H => ∃ F ds ms E, Rel K F H ms ∧ Sl K F σ ds ∧ t E ds ms ∧
  (∀ ds' ms' σ' F' H', E.nx ds' ms' → Rel K F' H' ms' → Stp F H ms F' H' ms' → Sl K F' σ' ds' → D.nx σ' H') ∧
  (∀ d ms' v F' H', E.rt d ms' → Rel K F' H' ms' → Stp F H ms F' H' ms' → DR K F' v d → D.rt v H') ∧
  (∀ ds' ms' σ' F' H', E.bk ds' ms' → Rel K F' H' ms' → Stp F H ms F' H' ms' → Sl K F' σ' ds' → D.bk σ' H') ∧
  (∀ ds' ms' σ' F' H', E.ct ds' ms' → Rel K F' H' ms' → Stp F H ms F' H' ms' → Sl K F' σ' ds' → D.ct σ' H') ∧
  (∀ c ns xs ds' ms' cv d ws σ' F' H', E.ex c ns xs ds' ms' → Rel K F' H' ms' → Stp F H ms F' H' ms' → Sl K F' σ' ds' → PySem.W.nsIn K mainGlobals c = some (some cv) → XD F' d ns ws → DRs K F' ws xs → W cv d σ' H')
abbrev PX (X : Cx) (W : WX) (st : Stmt) (t : DTS) : Prop := PS X st (liftX X.K W t)
abbrev PXs (X : Cx) (W : WX) (st : List Stmt) (t : DTS) : Prop := PSs X st (liftX X.K W t)
section
variable {X : Cx} {W : WX} {st : Stmt} {rest : List Stmt} {t u : DTS} {c : Expr} {dt : DT} {pos : Pos}
/-- a statement that raises nothing -/
theorem px_of (h : PDS X st t) : PX X W st t := psImp h fun D σ H ⟨F, ds, ms, E, R, S, h, n, r, k, q, _⟩ => ⟨F, ds, ms, E, R, S, h, n, r, k, q⟩
theorem px_nil : PXs X W [] dNext := pssImp pss_nil fun D σ H ⟨F, ds, ms, E, R, S, h, n, _⟩ => n ds ms σ F H h R Stp.refl S
theorem liftX_seq {K : PySem.W.Frag} : ∀ D σ H, liftX K W (dSeq t u) D σ H → tSeq (liftX K W t) (liftX K W u) D σ H := fun D σ H ⟨F, ds, ms, E, R, S, h, n, r, k, q, x⟩ =>
  ⟨F, ds, ms, { E with nx := u E }, R, S, h, fun ds1 m1 σ1 F1 H1 h1 R1 s1 S1 => ⟨F1, ds1, m1, E, R1, S1, h1,
    fun ds2 m2 σ2 F2 H2 h2 R2 s2 S2 => n ds2 m2 σ2 F2 H2 h2 R2 (s1.trans s2) S2, fun d m2 v F2 H2 h2 R2 s2 r2 => r d m2 v F2 H2 h2 R2 (s1.trans s2) r2,
    fun ds2 m2 σ2 F2 H2 h2 R2 s2 S2 => k ds2 m2 σ2 F2 H2 h2 R2 (s1.trans s2) S2, fun ds2 m2 σ2 F2 H2 h2 R2 s2 S2 => q ds2 m2 σ2 F2 H2 h2 R2 (s1.trans s2) S2,
    fun c ns xs ds2 m2 cv d ws σ2 F2 H2 h2 R2 s2 S2 => x c ns xs ds2 m2 cv d ws σ2 F2 H2 h2 R2 (s1.trans s2) S2⟩, r, k, q, x⟩
theorem px_cons (h1 : PX X W st t) (h2 : PXs X W rest u) : PXs X W (st :: rest) (dSeq t u) := pssImp (pss_cons h1 h2) liftX_seq
theorem px_one (h1 : PX X W st t) : PXs X W [st] t := pss_one h1
theorem px_if {x y : List Stmt} (hc : PDT X c dt) (ha : PXs X W x t) (hb : PXs X W y u) : PX X W (.If c x y pos) (dIfS dt t u) := psImp (ps_if hc ha hb) fun D σ H ⟨F, ds, ms, E, R, S, h, n, r, k, q, x⟩ =>
  ⟨F, ds, ms, _, R, S, h, fun b m F1 H1 p1 R1 s1 => by
    have mk : ∀ {w : DTS}, w E ds m → liftX X.K W w D σ H1 := fun {w} hw => ⟨F1, ds, m, E, R1, S.mono s1.sub, hw,
      fun ds2 m2 σ2 F2 H2 h2 R2 s2 S2 => n ds2 m2 σ2 F2 H2 h2 R2 (s1.trans s2) S2, fun d m2 v F2 H2 h2 R2 s2 r2 => r d m2 v F2 H2 h2 R2 (s1.trans s2) r2,
      fun ds2 m2 σ2 F2 H2 h2 R2 s2 S2 => k ds2 m2 σ2 F2 H2 h2 R2 (s1.trans s2) S2, fun ds2 m2 σ2 F2 H2 h2 R2 s2 S2 => q ds2 m2 σ2 F2 H2 h2 R2 (s1.trans s2) S2,
      fun c ns xs ds2 m2 cv d ws σ2 F2 H2 h2 R2 s2 S2 => x c ns xs ds2 m2 cv d ws σ2 F2 H2 h2 R2 (s1.trans s2) S2⟩
    cases b with
    | true => exact mk p1
    | false => exact mk p1⟩
/-- raise X('..'), X an own class without an __init__ -/
def dRaise (c : Str) : DTS := fun E ds ms => E.ex c [] [] ds ms
theorem px_raise {C : Addr} {bmB : List Value} {B newId initId : String} {x m : Str} {j : Nat} {p p2 pos pos' : Pos} (hc : X.calm = true) (tk : Takes X W) (F : ExcBaseFacts B newId initId bmB) (q : PySem.W.excIn X.K C bmB newId = true) (gC : X.mg x = some (.ref C)) (kC : PySem.W.keepIn X.K (.ref C) = true)
    (r : Raises X (.ref C)) (hg : Gl X x) (hn : PySem.W.nsIn X.K mainGlobals x = some (some (.ref C))) (hdb : (x == ("__debug__" : Str)) = false := by decide) :
    PX X W (.Raise (some (.Call (.Name x p) [.Constant (.str m) j p2] [] pos)) none pos') (dRaise x) :=
  psImp (ps_raise hc tk (pmk_own F q gC kC r hg hdb)) fun D σ H ⟨F0, ds, ms, E, R, S, h, _, _, _, _, z⟩ => z x [] [] ds ms _ none [] σ F0 H h R Stp.refl S hn (.inl ⟨rfl, rfl, rfl⟩) .nil
end
section
variable {X : Cx} {W : WX} {k n : Nat} {f : Addr} {fd : FuncData} {ps ks : List Str} {is : List Nat} {sp : Sp} {fx : FX} {x : Str} {p pos kpos : Pos} {e : Expr} {es : List Expr} {aa : DA}
/-- f(..) as a statement -/
def dDoX (n : Nat) (is : List Nat) (fx : FX) (aa : DA) : DTS := fun E ds ms => aa ds ms fun xs m => xs.length = n ∧ fx (pick is xs) m (fun _ m' => E.nx ds m') fun c ns ys m' => E.ex c ns ys ds m'
end
end DL
namespace DL
open PySem PySem.Spec PyProof.Rows L2
theorem fnX_of {P : Program} {w : World} {K : PySem.W.Frag} {mg : Str → Option Value} {base : Heap} {k : Nat} {f : Addr} {fd : FuncData} {x qual : Str} {st : Stmt} {N ps : List Str} {fx : FX} {t : DTS}
    (F : Fun K x qual st f fd) (S : FnScope N ps (defScope st)) (len : ∀ ds ms Q Z, fx ds ms Q Z → ds.length = ps.length)
    (body : ∀ (cdv : Value) (A : Around) (outer : List Env) (s : Shared) (H : Hp) (E : XK), RoomG k (A.deeper (envOfC qual (defScope st) s.heap.objs.size f cdv)) →
      ∀ W : WX, Takes (cxOf (L2.CX P w) P w K mg base N qual (defScope st) f cdv A outer s H E) W → PXs (cxOf (L2.CX P w) P w K mg base N qual (defScope st) f cdv A outer s H E) W (defBody st) t)
    (sem : ∀ ds ms Q Z, fx ds ms Q Z → t { nx := fun _ m => Q .non m, rt := Q, ex := fun c ns xs _ m => Z c ns xs m } (startD N.length ds) ms) : FnX P w K mg base (k + 1) f fd ps (spX K fx) := by
  have hlen : ∀ vs H Q E, spX K fx vs H Q E → vs.length = ps.length := by
    rintro vs H Q E ⟨F0, ds, ms, P0, Z, R, r, h, _⟩
    rw [r.length]
    exact len ds ms P0 Z h
  refine ⟨hlen, ?_⟩
  intro A outer s H args us vs Q E hr e0 hb r hsp
  obtain ⟨oc, od, kV, doc, pm, an, cdv, ct, osl, rfl, lk, hcd⟩ := F.ex
  have hl := hlen _ _ _ _ hsp
  have KX : K.In s.heap := e0.mod.kin.keeps fun b o e => (e0.bs b o e).1
  have lim : s.heap.NoLimit := e0.mod.nolimit.keeps fun b o e => (e0.bs b o e).1
  have hkind : ∀ y ∈ ps.zip us, (defScope st).names.lookup y.1 = some .local ∨ ((defScope st).names.lookup y.1 = some .cell ∧
      ((cellsFrom (s.heap.objs.size + 1) (defScope st).names []).lookup y.1).isSome = true) := by
    rintro ⟨n, v⟩ hy
    exact (S.par n (List.of_mem_zip hy).1).imp id fun q => ⟨q, PySem.W.cellsFrom_some _ _ _ (.inl q)⟩
  have hr2 : RoomG k (A.deeper (envOfC qual (defScope st) s.heap.objs.size f cdv)) := ⟨hr.r.deeper _, hr.g⟩
  refine codeAny_call_function hr.r.depth (KX _ _ lk) rfl S.co S.gen rfl (PySem.W.codeRec_of KX hcd) (hb _ _ _ _ ?_)
  refine wpAny_newFunctionEnv_cells S.kind hkind fun env he s1 x1 => ?_
  subst he
  refine ⟨lim.keeps x1.toInCall.keep, codeAny_func ?_⟩
  have I : Inv (cxOf (L2.CX P w) P w K mg base N qual (defScope st) f cdv A outer s H E) [] (L2.start N vs) H s1 := inv_start S hr.r.hd e0 hl r x1
  have tk : Takes (cxOf (L2.CX P w) P w K mg base N qual (defScope st) f cdv A outer s H E) fun cls d _ H' => E cls d H' := takes_of rfl rfl rfl rfl
  have hq : liftX K (fun cls d _ H' => E cls d H') t { nx := fun _ H' => Q .non H', rt := Q } (L2.start N vs) H := by
    obtain ⟨F0, ds, ms, P0, Z, R, rd, h, q, z⟩ := hsp
    refine ⟨F0, startD N.length ds, ms, _, R, sl_start rd (by rw [hl, ← S.pre]; exact List.length_take_le' _ _), sem ds ms P0 Z h, ?_, ?_, ?_, ?_, ?_⟩
    · exact fun ds' ms' σ' F' H' y R' s' S' => q .non ms' .non F' H' y R' s' .non
    · exact fun d ms' v F' H' y R' s' r' => q d ms' v F' H' y R' s' r'
    · exact fun _ _ _ _ _ y _ _ _ => y.elim
    · exact fun _ _ _ _ _ y _ _ _ => y.elim
    · exact fun c ns xs ds' ms' cv d ws σ' F' H' y R' s' S' hn hx hd => z c ns xs ms' cv d ws F' H' y R' s' hn hx hd
  refine wpAny_mono ((body cdv A outer s H E hr2 _ tk).run [] s1 (L2.start N vs) H _ I hq) (fun fl s' hs => ?_) fun e s' hs => hs
  match fl, hs with
  | .ret u, hs =>
    obtain ⟨v, σ', H', J, rv, q⟩ := hs
    exact ⟨v, H', J.os, J.bare, J.base, J.hok, rv, q⟩
  | .next, hs =>
    obtain ⟨σ', H', J, q⟩ := hs
    exact ⟨V.non, H', J.os, J.bare, J.base, J.hok, rfl, q⟩
  | .brk, hs => obtain ⟨_, _, _, q⟩ := hs; exact False.elim q
  | .cont, hs => obtain ⟨_, _, _, q⟩ := hs; exact False.elim q
section
variable {X : Cx} {pins : List (Addr × Obj)} {σ σ0 : L2.St} {H H0 : Hp} {s s0 : Shared}
theorem track {a : Addr} {oe : Obj} {fv : Array Value} {cv : Value} {d : Option Addr} (I : Inv X pins σ H s) (J : Inv X pins σ0 H0 s0) (hex : X.ex = []) (n0 : s0.heap.get? a = none) (na : H a = none) (ha : s.heap.get? a = some oe) (hz : Zc cv d oe) (hd : oe.data = .fields fv) :
    Inv X pins σ (upd H a (ExH cv d a)) s := by
  have apart : ∀ b, (∃ o, s0.heap.get? b = some o) → b ≠ a := fun b ⟨o, e⟩ z => by rw [z, n0] at e; cases e
  have first : ∀ b o, X.s_0.heap.get? b = some o → b ≠ a := fun b o e => apart b (J.base.there b o e (by rw [hex]; exact nofun))
  have told : ∀ {b o}, H b = some o → b ≠ a := fun {b o} e => ne_of_none e na
  refine ⟨I.ok, I.os, I.bare, ⟨I.base.keep, I.base.slot, fun b o e1 e2 e3 => ?_, I.base.there, fun b xs e => ?_, fun b o xs e => ?_, fun b ts e => ?_⟩, I.loc, I.cell, ?_, fun x c e => ?_, fun p hp => ?_, fun b o e => ?_, I.len⟩
  · rw [upd_ne (first b o e1)]; exact I.base.free b o e1 e2 e3
  · have z := I.base.tups b xs e
    rw [upd_ne (told z)]; exact z
  · have z := I.base.frzs b o xs e
    rw [upd_ne (told z)]; exact z
  · obtain ⟨m, z⟩ := I.base.tbls b ts e
    exact ⟨m, by rw [upd_ne (told z)]; exact z⟩
  · obtain ⟨m, ⟨o, _, _, e, _⟩, _⟩ := J.loc
    rw [upd_ne (apart _ ⟨o, e⟩)]; exact I.free
  · obtain ⟨v, o, e', _⟩ := J.cell x c e
    rw [upd_ne (apart c ⟨o, e'⟩)]; exact I.freeC x c e
  · obtain ⟨e1, e2, e3, e4, e5⟩ := I.pin p hp
    exact ⟨e1, by rw [upd_ne (apart _ ⟨_, (J.pin p hp).1⟩)]; exact e2, e3, e4, e5⟩
  · by_cases hb : b = a
    · subst hb
      rw [upd_same] at e
      cases e
      exact ⟨⟨oe, fv, ha, hz, hd⟩, ⟨oe, ha⟩, fun _ _ ⟨o, v, q, r⟩ k => ⟨o, v, k o q, r⟩⟩
    · rw [upd_ne hb] at e
      exact (I.hok b o e).stay (fun _ _ _ q => q) (fun c q => by rw [upd_ne (told q)]; exact q) fun c xs q => by rw [upd_ne (told q)]; exact q
end
end DL
namespace DL
open PySem PySem.Spec PyProof.Rows L2
theorem Sl.off {K : PySem.W.Frag} {F : Hp} {o : Option V} : ∀ {σ : L2.St} {ds : DS} (i : Nat), Sl K F σ ds → Sl K F (σ.set i o) (ds.set i none)
  | _, _, i, .nil => by cases i <;> exact .nil
  | _, _, 0, .sm _ r => .nn r
  | _, _, 0, .nn r => .nn r
  | _, _, i + 1, .sm q r => .sm q (Sl.off i r)
  | _, _, i + 1, .nn r => .nn (Sl.off i r)
/-- try: body, except x as n: y = n; ml: of each class that may come whether the clause takes it -/
def dTry (ml : List (Str × Bool)) (i j : Nat) (tb : DTS) : DTS := fun E ds ms => tb { E with ex := fun c ns xs ds' ms' => match ml.lookup c with
  | some true => E.nx ((setSlot ds' j (.exc c ns xs)).set i none) ms'
  | some false => E.ex c ns xs ds' ms'
  | none => False } ds ms
def dTry0 (ml : List (Str × Bool)) (i j : Nat) (tb : DTS) : DTS := fun E ds ms => dTry ml i j tb { E with ex := fun _ _ _ _ _ => False } ds ms
structure ExF (K : PySem.W.Frag) (c : Str) (C : Addr) (bmB : List Value) (newId : String) : Prop where
  ns : PySem.W.nsIn K mainGlobals c = some (some (.ref C))
  ex : PySem.W.excIn K C bmB newId = true
  kp : PySem.W.keepIn K (.ref C) = true
  sb : PySem.W.subIn K (.ref C) (.type "BaseException") = some true
  ty : PySem.W.typeIn K (.ref C) = some (.type "type")
  cc : ExcC K C
theorem px_raiseF {X : Cx} {W : WX} {C : Addr} {bmB : List Value} {B newId initId : String} {x m : Str} {j : Nat} {p p2 pos pos' : Pos} (hc : X.calm = true) (tk : Takes X W) (F : ExcBaseFacts B newId initId bmB) (E : ExF X.K x C bmB newId) (gC : X.mg x = some (.ref C)) (hg : Gl X x)
    (hdb : (x == ("__debug__" : Str)) = false := by decide) : PX X W (.Raise (some (.Call (.Name x p) [.Constant (.str m) j p2] [] pos)) none pos') (dRaise x) :=
  px_raise hc tk F E.ex gC E.kp (raises_own E.sb E.ty) hg E.ns hdb
abbrev MlE (K : PySem.W.Frag) (cl : Value) (ml : List (Str × Bool)) : Prop := ∀ c b cv, ml.lookup c = some b → PySem.W.nsIn K mainGlobals c = some (some cv) → PySem.W.exmOne K cv cl = some b
theorem mlE_nil {K : PySem.W.Frag} {cl : Value} : MlE K cl [] := fun c b cv h _ => by cases h
theorem ml_split {c c1 : Str} {b b1 : Bool} {ml : List (Str × Bool)} (h : ((c1, b1) :: ml).lookup c = some b) : (c = c1 ∧ b = b1) ∨ ml.lookup c = some b := by
  rw [List.lookup_cons] at h
  split at h
  · rename_i e
    cases h
    exact .inl ⟨beq_iff_eq.mp e, rfl⟩
  · exact .inr h
end DL
namespace DL
open PySem PySem.Spec PyProof.Rows L2
def nonD : D → Option Bool
  | .non => some true
  | .opq (.ref _) => some false
  | .opq _ => none
  | _ => some false
def fIsB (neg : Bool) : OF := fun x y ms P => match y with
  | .bl b => (match x with
    | .bl a => P (.bl (Bool.xor neg (decide (a = b)))) ms
    | _ => False)
  | .non => (match nonD x with
    | some z => P (.bl (Bool.xor neg z)) ms
    | none => False)
  | _ => False
def fIs : OF := fIsB false
def fNotIs : OF := fIsB true
def InOk (x : D) (ys : List D) (neg : Bool) (ms : MS) (P : D → MS → Prop) : Prop := ∃ p ps, toPy x = some p ∧ toPys ys = some ps ∧ p.canLay0 = true ∧ p.depth ≤ 60 ∧ PyData.canLayAll0 ps = true ∧ P (.bl (Bool.xor neg (ps.any fun z => PyData.eqv z p))) ms
def fInB (neg : Bool) : OF := fun x y ms P => match y with
  | .lst ys => InOk x ys neg ms P
  | .tup ys => InOk x ys neg ms P
  | _ => False
def fIn : OF := fInB false
def fNotIn : OF := fInB true
def rInF (K : PySem.W.Frag) (neg : Bool) : R2 := fun x y H Q => ∃ F dx dy ms P, Sub F H ∧ DR K F x dx ∧ DR K F y dy ∧ fInB neg dx dy ms P ∧ ∀ b, P (.bl b) ms → Q (.bl b) H
theorem op_inF {X : Cx} (hu : X.A.units + 64 < cLine) : OpR X (compareOp .In) (rInF X.K false) := by
  intro pins s σ H x y v u Q I rx ry h
  obtain ⟨F, dx, dy, ms, P, sb, hx, hy, h, q⟩ := h
  cases hy with
  | lst ha hs =>
    obtain ⟨p, ps, e1, e2, c1, c2, c3, h⟩ := h
    obtain ⟨as, r1⟩ := DR.reads I sb dx p x v hx e1 rx
    obtain ⟨bs, r2⟩ := DR.reads I sb (.lst _) (.list ps) _ u (.lst ha hs) (by unfold toPy; rw [e2]; rfl) ry
    exact SeqAt.in_list_reads r2 r1 c3 c1 (by omega) ⟨.bl _, H, I, rfl, q _ (by simpa using h)⟩
  | tup ha hs =>
    obtain ⟨p, ps, e1, e2, c1, c2, c3, h⟩ := h
    obtain ⟨as, r1⟩ := DR.reads I sb dx p x v hx e1 rx
    obtain ⟨bs, r2⟩ := DR.reads I sb (.tup _) (.tuple ps) _ u (.tup ha hs) (by unfold toPy; rw [e2]; rfl) ry
    exact SeqAt.in_tuple_reads r2 r1 c3 c1 (by omega) ⟨.bl _, H, I, rfl, q _ (by simpa using h)⟩
  | _ => exact False.elim h
theorem op_notInF {X : Cx} (hu : X.A.units + 64 < cLine) : OpR X (compareOp .NotIn) (rInF X.K true) := by
  intro pins s σ H x y v u Q I rx ry h
  obtain ⟨F, dx, dy, ms, P, sb, hx, hy, h, q⟩ := h
  cases hy with
  | lst ha hs =>
    obtain ⟨p, ps, e1, e2, c1, c2, c3, h⟩ := h
    obtain ⟨as, r1⟩ := DR.reads I sb dx p x v hx e1 rx
    obtain ⟨bs, r2⟩ := DR.reads I sb (.lst _) (.list ps) _ u (.lst ha hs) (by unfold toPy; rw [e2]; rfl) ry
    exact SeqAt.notIn_list_reads r2 r1 c3 c1 (by omega) ⟨.bl _, H, I, rfl, q _ (by simpa using h)⟩
  | tup ha hs =>
    obtain ⟨p, ps, e1, e2, c1, c2, c3, h⟩ := h
    obtain ⟨as, r1⟩ := DR.reads I sb dx p x v hx e1 rx
    obtain ⟨bs, r2⟩ := DR.reads I sb (.tup _) (.tuple ps) _ u (.tup ha hs) (by unfold toPy; rw [e2]; rfl) ry
    exact SeqAt.notIn_tuple_reads r2 r1 c3 c1 (by omega) ⟨.bl _, H, I, rfl, q _ (by simpa using h)⟩
  | _ => exact False.elim h
theorem opd_inB {K : PySem.W.Frag} {neg : Bool} : OpD K (rInF K neg) (fInB neg) := fun F H ms x y dx dy P Q R rx ry h q =>
  ⟨F, dx, dy, ms, P, R.sub, rx, ry, h, fun b z => q _ ms _ F H z R Stp.refl (.bl _)⟩
theorem opd_in {K : PySem.W.Frag} : OpD K (rInF K false) fIn := opd_inB
theorem opd_notIn {K : PySem.W.Frag} : OpD K (rInF K true) fNotIn := opd_inB
def dEdic : DE := fun _ ms P => P .edic ms
end DL
namespace DL
open PySem PySem.Spec PyProof.Rows L2
def dIsE (ml : List (Str × Bool)) (de : DE) : DE := fun ds ms P => de ds ms fun d m => match d with
  | .exc c _ _ => (match ml.lookup c with
    | some b => P (.bl b) m
    | none => False)
  | _ => False
def rIsE2 (K : PySem.W.Frag) : List V → Hp → VK → Prop := fun xs H Q => ∃ (a C : Addr) (d : Option Addr) (fs : List (Str × V)) (c : V) (cw : Value) (b : Bool), xs = [.ref a, c] ∧ H a = some (ExH (.ref C) d a) ∧ (d = none ∨ ∃ dx, d = some dx ∧ H dx = some (.xd fs)) ∧ ExcC K C ∧ (∀ u, RelV c u → u = cw) ∧ PySem.W.kitOne K (.ref C) cw = some b ∧ Q (.bl b) H
theorem call_isE2 {X : Cx} : CallR X (.builtin "isinstance") (rIsE2 X.K) := by
  intro pins s σ H xs us Q I r h
  obtain ⟨a, C, d, fs, c, cw, b, rfl, ha, hd, hC, hcw, e, q⟩ := h
  match us, r with
  | [_, u], .cons (.refl _) (.cons rt .nil) =>
    have eu := hcw u rt
    subst eu
    obtain ⟨⟨oe, fv, ho, hz, hf⟩, _, _⟩ := I.hok a _ ha
    have go : ∀ od, PySem.W.InstAt s.heap a oe C od → wpAny (model X.prog X.w) X.A (call (.builtin "isinstance") [.ref a, u]) (EP X pins σ Q) X.xe s := fun od J => by
      have hcl : (PySem.W.clsIn X.K C).isSome = true := by
        obtain ⟨cd, hc, _⟩ := PySem.W.any_some hC.hd
        rw [hc]; rfl
      exact PySem.W.kia_one (PySem.W.kitx_exc hcl hC.hg hC.hk hC.hs hC.ha hC.hn hC.ht hC.hm) I.kIn J e (fun z => nomatch z) fun tk => ⟨.bl b, H, I.kept (t' := tk) fun _ _ z => z, rfl, q⟩
    have nc : PySem.W.notCls oe = true := by unfold PySem.W.notCls; rw [hf]
    rcases hd with rfl | ⟨dx, rfl, hx⟩
    · exact go none ⟨ho, hz.1, nc, by rw [hz.2]; trivial⟩
    · obtain ⟨mA, hns, _⟩ := (show ObjOk X.prog X.w H s.heap dx (.xd fs) from I.hok dx _ hx)
      obtain ⟨od, hod, _⟩ := lookIn_ns hns
      exact go (some od) ⟨ho, hz.1, nc, by rw [hz.2]; exact hod⟩
/-- of each class that may come: it is an own one, and isinstance answers so -/
abbrev MlK (K : PySem.W.Frag) (cw : Value) (ml : List (Str × Bool)) : Prop := ∀ c b cv, ml.lookup c = some b → PySem.W.nsIn K mainGlobals c = some (some cv) → ∃ C, cv = .ref C ∧ ExcC K C ∧ PySem.W.kitOne K (.ref C) cw = some b
theorem mlK_nil {K : PySem.W.Frag} {cw : Value} : MlK K cw [] := fun c b cv h _ => by cases h
theorem mlK_cons {K : PySem.W.Frag} {c1 : Str} {b1 : Bool} {C : Addr} {cw : Value} {ml : List (Str × Bool)} (ns : PySem.W.nsIn K mainGlobals c1 = some (some (.ref C))) (cc : ExcC K C) (h : PySem.W.kitOne K (.ref C) cw = some b1) (r : MlK K cw ml) : MlK K cw ((c1, b1) :: ml) := fun c b cv hl hn => by
  rcases ml_split hl with ⟨rfl, rfl⟩ | hl
  · rw [ns] at hn
    cases hn
    exact ⟨C, rfl, cc, h⟩
  · exact r c b cv hl hn
theorem pd_isE {X : Cx} {e : Expr} {de : DE} {x : Str} {p p2 pos : Pos} {cw : Value} {v2 : V} {ml : List (Str × Bool)} (hml : MlK X.K cw ml) (hr : ∀ u, RelV v2 u → u = cw) (h2 : PE X (.Name x p2) (tC v2))
    (hg : Gl X "isinstance") (hm : X.mg "isinstance" = none)
    (h : PD X e de) (he : starEach [e, .Name x p2] X.env = (false, eval e X.env) :: starEach [.Name x p2] X.env := by rfl) (hpl : (backTo pos (starEach [.Name x p2] X.env)).any (·.1) = false := by rfl) :
    PD X (.Call (.Name "isinstance" p) [e, .Name x p2] [] pos) (dIsE ml de) :=
  peImp (pe_callB call_isE2 hg hm (by decide +kernel) (pa_cons h (pa_cons h2 pa_nil) he) (by decide) (by decide) he hpl) fun σ H Q ⟨F, ds, ms, P, R, S, h1, h2⟩ =>
    ⟨F, ds, ms, _, R, S, h1, fun d m v F1 H1 p1 R1 s1 r1 => by
      match d, p1, r1 with
      | .exc c ns ys, p1, .exc (a := a) (d := dd) (vs := vs) h0 ha hx hs =>
        cases e1 : ml.lookup c with
        | none => simp only [e1] at p1
        | some b =>
          simp only [e1] at p1
          obtain ⟨C, rfl, hC, hk⟩ := hml c b _ e1 h0
          refine ⟨a, C, dd, ns.zip vs, v2, cw, b, rfl, R1.sub _ _ ha, ?_, hC, hr, hk, h2 _ m _ F1 H1 p1 R1 s1 (.bl _)⟩
          rcases hx with ⟨z, _, _⟩ | ⟨dx, z, z2, _⟩
          · exact .inl z
          · exact .inr ⟨dx, z, R1.sub _ _ z2⟩⟩
theorem zip_look {K : PySem.W.Frag} {F : Hp} {f : Str} {y : D} : ∀ {ns : List Str} {vs : List V} {xs : List D}, DRs K F vs xs → (ns.zip xs).lookup f = some y → ∃ v, (ns.zip vs).lookup f = some v ∧ DR K F v y
  | [], _, _, _, h => by cases h
  | _ :: _, _, _, .nil, h => by cases h
  | n :: ns, _, _, .cons (v := v) (vs := vs) (d := d) (ds := ds) r t, h => by
    rw [List.zip_cons_cons, List.lookup_cons] at h ⊢
    cases e : f == n with
    | true => rw [e] at h; cases h; exact ⟨v, rfl, r⟩
    | false => rw [e] at h; exact zip_look t h
def dFld (ml : List (Str × Bool)) (f : Str) (de : DE) : DE := fun ds ms P => de ds ms fun d m => match d with
  | .exc c ns xs => (ml.lookup c).isSome = true ∧ ∃ y, (ns.zip xs).lookup f = some y ∧ P y m
  | _ => False
abbrev MlF (K : PySem.W.Frag) (f : Str) (ml : List (Str × Bool)) : Prop := ∀ c b cv, ml.lookup c = some b → PySem.W.nsIn K mainGlobals c = some (some cv) → ∃ C, cv = .ref C ∧ ExcC K C ∧ PySem.W.findIn K (.ref C) f = some none
theorem mlF_nil {K : PySem.W.Frag} {f : Str} : MlF K f [] := fun c b cv h _ => by cases h
theorem mlF_cons {K : PySem.W.Frag} {c1 f : Str} {b1 : Bool} {C : Addr} {ml : List (Str × Bool)} (ns : PySem.W.nsIn K mainGlobals c1 = some (some (.ref C))) (cc : ExcC K C) (h : PySem.W.findIn K (.ref C) f = some none) (r : MlF K f ml) : MlF K f ((c1, b1) :: ml) := fun c b cv hl hn => by
  rcases ml_split hl with ⟨rfl, rfl⟩ | hl
  · rw [ns] at hn
    cases hn
    exact ⟨C, rfl, cc, h⟩
  · exact r c b cv hl hn
def tFld (K : PySem.W.Frag) (f : Str) (te : TE) : TE := fun σ H Q => te σ H fun x H1 => ∃ (a C dd : Addr) (fs : List (Str × V)) (v : V), x = .ref a ∧ H1 a = some (ExH (.ref C) (some dd) a) ∧ H1 dd = some (.xd fs) ∧ fs.lookup f = some v ∧ ExcC K C ∧ PySem.W.findIn K (.ref C) f = some none ∧ Q v H1
theorem pe_fld {X : Cx} {e : Expr} {te : TE} {pos : Pos} {f : Str} (he : PE X e te) (hb : attributeBase e f X.env (eval e X.env) = eval e X.env := by rfl) : PE X (.Attribute e f pos) (tFld X.K f te) := by
  refine ⟨fun pins s σ H Q I h => attr_of hb (thn (he.run pins s σ H _ I h) ?_)⟩
  rintro u s1 ⟨x, H1, I1, rx, a, C, dd, fs, v, rfl, ha, hx, hl, hC, hno, q⟩
  obtain rfl : u = Value.ref a := rx
  obtain ⟨⟨oe, fv, ho, hz, hf⟩, _, _⟩ := I1.hok a _ ha
  obtain ⟨mA, hns, hr⟩ := (show ObjOk X.prog X.w H1 s1.heap dd (.xd fs) from I1.hok dd _ hx)
  obtain ⟨od, hod, hlk⟩ := lookIn_ns hns
  obtain ⟨w, hw, rw'⟩ := RelO.some_of (v := v) (o := mA f) (by rw [← hl]; exact hr f)
  have J : PySem.W.InstAt s1.heap a oe C (some od) := ⟨ho, hz.1, by unfold PySem.W.notCls; rw [hf], by rw [hz.2]; exact hod⟩
  exact HandSPX.exc_get I1.kIn J hC.hg hC.hk hC.hs (PySem.W.findObj_own hC.hd hno rfl (by rw [hlk, hw])) (handed_of rw') ⟨v, H1, I1.tok _, rw', q⟩
theorem pd_fld {X : Cx} {e : Expr} {de : DE} {pos : Pos} {f : Str} {ml : List (Str × Bool)} (hml : MlF X.K f ml) (h : PD X e de) (hb : attributeBase e f X.env (eval e X.env) = eval e X.env := by rfl) : PD X (.Attribute e f pos) (dFld ml f de) :=
  peImp (pe_fld h hb) fun σ H Q ⟨F, ds, ms, P, R, S, h1, h2⟩ =>
    ⟨F, ds, ms, _, R, S, h1, fun d m v F1 H1 p1 R1 s1 r1 => by
      match d, p1, r1 with
      | .exc c ns ys, ⟨q1, y, q2, q3⟩, .exc (a := a) (d := dd) (vs := vs) h0 ha hx hs =>
        obtain ⟨b, hb1⟩ := Option.isSome_iff_exists.mp q1
        obtain ⟨C, rfl, hC, hk⟩ := hml c b _ hb1 h0
        obtain ⟨z, hz, rz⟩ := zip_look hs q2
        rcases hx with ⟨_, rfl, _⟩ | ⟨dx, rfl, z2, _⟩
        · cases q2
        · exact ⟨a, C, dx, _, z, rfl, R1.sub _ _ ha, R1.sub _ _ z2, hz, hC, hk, h2 _ m _ F1 H1 q3 R1 s1 rz⟩⟩
end DL
namespace DL
open PySem PySem.Spec PyProof.Rows L2
section
open PySem.W PySem.Calls
structure XB (newId initId : String) (bmB : List Value) : Prop where
  made : ∀ {prog : Program} {w : World} {A : Around} {R : Result → Shared → Prop} {h : Heap} {g : Array GenState} {d : Drawn} {t : Nat} {os : OsState} {nm q : Str} {C N : Addr} {bs bm : List Value} {hdct : Bool} {sn : List Str} {sub : List Value} {ab : Bool} {col : Option Bool} {dd : Option Addr} {k0 k1 k2 k3 k5 : Option Value} {rest : List Value} {fI : Addr}, (∀ X : String, bm.contains (.type X) = bmB.contains (.type X)) → h.get? C = some (excClassObj nm q C N bs bm hdct sn sub ab col dd k0 k1 k2 k3 k5 newId) → PySem.W.Looks (model prog w) h (typeLookup (.ref C) "__init__") (some (.ref fI)) → (∀ self, PySem.W.Looks (model prog w) h (bindSpecial (.ref fI) self) (.ref fI, [self])) → rest.length ≤ sizeLine →
    codeAny (model prog w) (A.under (.builtin "type.__call__" ⟨.ref C :: rest, []⟩)) (.call (.ref fI) ⟨.ref (h.objs.size + 1) :: rest, []⟩) (PySem.W.InitBack (h.objs.size + 1) R) ⟨(h.push (PySem.W.kdv_tup rest)).push (PySem.PX.excO C h.objs.size), g, d, t, os⟩ → codeAny (model prog w) A (.call (.ref C) ⟨rest, []⟩) R ⟨h, g, d, t, os⟩
  bound : ∀ {M : Model} {A : Around} {E : Value → Shared → Prop} {Q : Unit → Shared → Prop} {h : Heap} {g : Array GenState} {d : Drawn} {t : Nat} {os : OsState} {nm q : Str} {C N e : Addr} {oe : Obj} {bs bm : List Value} {hdct : Bool} {sn : List Str} {sub : List Value} {ab : Bool} {col : Option Bool} {dd : Option Addr} {k0 k1 k2 k3 k5 : Option Value} {rest : List Value}, h.get? C = some (excClassObj nm q C N bs bm hdct sn sub ab col dd k0 k1 k2 k3 k5 newId) → h.get? e = some oe → oe.cls = .ref C → Q () ⟨h, g, d, t, os⟩ → wpAny M A (checkBoundCall initId ⟨.ref e :: rest, []⟩) Q E ⟨h, g, d, t, os⟩
  plain : plainId initId = true
  entry : entryFor table initId = some Builtin.«BaseException.__init__»
theorem xb_of {B newId initId : String} {bmB : List Value} (F : ExcBaseFacts B newId initId bmB) : XB newId initId bmB := ⟨fun hT hC hi hb hr hq => PySem.PX.call_own F hT hC hi hb hr hq, fun hC he hc hq => check_bound_init F.toExcCallFacts hC he hc hq, F.init.plain, F.initEntry⟩
end
section
open PySem.W PySem.Calls
variable {prog : Program} {w : World} {A : Around} {E : Value → Shared → Prop} {K : Frag} {C x : Addr} {B newId initId : String} {bmB : List Value} {hp : Heap} {g : Array GenState} {d : Drawn} {t : Nat} {os : OsState} {fv : Array Value} {name : Str} {v : Value} {Q : Unit → Shared → Prop}
theorem xst_new {t1 : Addr} (SF : StoreFacts B bmB "object.__setattr__" "object") (X : K.In hp) (hx : hp.get? x = some (excObj C t1 none .none)) (hs : findIn K (.ref C) "__setattr__" = some (some (.builtin "object.__setattr__")))
    (ho : excOver K C bmB = true) (ht : takerIn K C name = some none) (hh : hasDictIn K C = true)
    (hq : ∀ h' tk' dx, (∀ b o, b ≠ x → hp.get? b = some o → h'.get? b = some o) → hp.objs.size ≤ dx → dx ≠ x → h'.get? x = some (excObj C t1 (some dx) .none) →
      h'.Ns1 dx (fun y => if y = name then some v else none) → Q () ⟨h', g, d, tk', os⟩) : wpAny (model prog w) A (setAttr (.ref x) name v) Q E ⟨hp, g, d, t, os⟩ := by
  refine set_plain (od := none) X ⟨hx, rfl, rfl, trivial⟩ hs ?_
  refine osa_openX (od := none) SF X ⟨hx, rfl, rfl, trivial⟩ ho ht fun b => ?_
  obtain ⟨cd, hc, hd'⟩ := any_some hh
  have hxs : x ≠ hp.objs.size := Nat.ne_of_lt (Heap.lt_size hx)
  refine wpAny_bind (wpAny_pure (wpAny_bind (instanceDict_exc hx (looks_clsIn X hc) hd' ?_)))
  refine HandSPX.store_in_new ?_ ?_
  · exact ⟨_, #[], _, (Heap.get?_update_ne _ _ _ _ hxs.symm).trans (Heap.get?_push_at rfl rfl), rfl, fun e he => absurd he (by simp), fun _ => rfl⟩
  · intro h' tk' hn' hsm
    have hx₁ : (hp.push (dictOf [] 0)).get? x = some (excObj C t1 none .none) := Heap.get?_push_of_some _ hx
    refine hq h' tk' hp.objs.size (fun b o hb ho => ?_) (Nat.le_refl _) hxs.symm ?_ hn'
    · exact (hsm.2 b (Nat.ne_of_lt (Heap.lt_size ho))).trans ((Heap.get?_update_ne _ _ _ _ hb).trans (Heap.get?_push_of_some _ ho))
    · exact (hsm.2 x hxs).trans (Heap.get?_update_self _ hx₁ rfl)
theorem xst_old {t1 dx : Addr} {m0 : Str → Option Value} {nl : List Str} (SF : StoreFacts B bmB "object.__setattr__" "object") (X : K.In hp) (hx : hp.get? x = some (excObj C t1 (some dx) .none)) (hns : hp.Ns1 dx m0) (hw : Within m0 nl) (hz : nl.length ≤ 1000) (hs : findIn K (.ref C) "__setattr__" = some (some (.builtin "object.__setattr__")))
    (ho : excOver K C bmB = true) (ht : takerIn K C name = some none) (hh : hasDictIn K C = true)
    (hq : ∀ h' tk', (∀ b o, b ≠ dx → hp.get? b = some o → h'.get? b = some o) → h'.Ns1 dx (fun y => if y = name then some v else m0 y) → Q () ⟨h', g, d, tk', os⟩) : wpAny (model prog w) A (setAttr (.ref x) name v) Q E ⟨hp, g, d, t, os⟩ := by
  obtain ⟨oD, esD, epD, hoD, hdD, _⟩ := hns.count hw
  refine set_plain (od := some oD) X ⟨hx, rfl, rfl, hoD⟩ hs ?_
  refine osa_openX (od := some oD) SF X ⟨hx, rfl, rfl, hoD⟩ ho ht fun b => ?_
  obtain ⟨cd, hc, hd'⟩ := any_some hh
  refine wpAny_bind (wpAny_pure (wpAny_bind (wpAny_bind (wpAny_loadPart hx (wpAny_bind ((looks_clsIn X hc).here ?_))))))
  rw [hd']
  refine wpAny_pure (a := some dx) ?_
  refine OEX.store_in_old hns hw hz ?_
  intro h' tk' hn' hsm
  exact hq h' tk' (fun b o hb ho => (hsm.2 b hb).trans ho) hn'
end
section
open PySem.W PySem.Calls
variable {prog : Program} {w : World} {A : Around} {E : Value → Shared → Prop} {K : Frag} {C x u : Addr} {B newId initId : String} {bmB : List Value} {hp : Heap} {g : Array GenState} {d : Drawn} {t : Nat} {os : OsState}
/-- the bound __init__ of the built-in class, called -/
theorem xin_call {t0 : Addr} {rest : List Value} {Q : Value → Shared → Prop} (FB : XB newId initId bmB) (q : excInitIn K C bmB newId = true) (X : K.In hp) (hu : hp.get? u = some (kxs_mw initId x)) (he : hp.get? x = some (excObj C t0 none .none)) (hz : rest.length ≤ sizeLine)
    (fin : ∀ h' t1, (∀ b o, b ≠ x → hp.get? b = some o → h'.get? b = some o) → h'.get? x = some (excObj C t1 none .none) → Q .none ⟨h', g, d, t, os⟩) : wpAny (model prog w) A (call (.ref u) rest) Q E ⟨hp, g, d, t, os⟩ := by
  obtain ⟨nm, N', qn, bs, bm, hdct, sn, sub, ab, col, dd, k0, k1, k2, k3, k5, hC, hT⟩ := excInit_of X q
  refine wpAny_call (codeAny_of_tree ?_)
  show wpAny _ A.in1 (callAny (.ref u) ⟨rest, []⟩) _ _ _
  simp only [callAny]
  refine wpAny_bind (wpAny_load hu ?_)
  simp only [kxs_mw, show (Value.type "method-wrapper" == Value.type "method" || Value.type "method-wrapper" == Value.type "builtin_function_or_method" || Value.type "method-wrapper" == Value.type "method-wrapper") = true by decide, if_true]
  refine KFB.if_so (by decide) ?_
  refine wpAny_bind (FB.bound hC he rfl ?_)
  refine wpAny_bind (wpAny_pure (wpAny_pure ?_))
  refine ⟨plainId_quiet FB.plain _, codeAny_builtin FB.entry ?_⟩
  exact exc_init_tree (cls := .ref C) (t0 := t0) (dv := none) (c2 := .none) (c3 := .none) (b4 := .bool false) he hz fun h' k e' _ => fin h' _ k e'
end
abbrev supSt (m : Str) (j : Nat) (p0 p1 p2 p3 p4 p5 : Pos) : Stmt := .Expr (.Call (.Attribute (.Call (.Name "super" p0) [] [] p1) "__init__" p2) [.Constant (.str m) j p3] [] p4) p5
abbrev fldSt (f : Str) (q : Pos × Pos × Pos × Pos) : Stmt := .Assign [.Attribute (.Name "self" q.1) f q.2.1] (.Name f q.2.2.1) q.2.2.2
/-- what the top says of such a class: C the class, fI its __init__, cc the cell of __class__, cda the code -/
structure ExI (prog : Program) (K : PySem.W.Frag) (c : Str) (C fI cc cda : Addr) (B newId initId : String) (bmB : List Value) (fs : List Str) : Prop where
  ns : PySem.W.nsIn K mainGlobals c = some (some (.ref C))
  kp : PySem.W.keepIn K (.ref C) = true
  sb : PySem.W.subIn K (.ref C) (.type "BaseException") = some true
  sB : PySem.W.subIn K (.ref C) (.type B) = some true
  ty : PySem.W.typeIn K (.ref C) = some (.type "type")
  ini : PySem.W.findIn K (.ref C) "__init__" = some (some (.ref fI))
  fn : PySem.W.isFn K (.ref fI) = true
  ex : PySem.W.excInitIn K C bmB newId = true
  ov : PySem.W.excOver K C bmB = true
  sa : PySem.W.findIn K (.ref C) "__setattr__" = some (some (.builtin "object.__setattr__"))
  hd : PySem.W.hasDictIn K C = true
  sup : PySem.W.ks_superIn K C C "__init__" = some (some (.builtin initId))
  mro : PySem.W.mroIn K C (.ref C) = some true
  tkr : ∀ f ∈ fs, PySem.W.takerIn K C f = some none
  cell : ∃ cl cld csl, K.lookup cc = some ⟨cl, cld, .cell (some (.ref C)), csl⟩
  code : ∃ ccl cdd vs ccs file tf, K.lookup cda = some ⟨ccl, cdd, .fields vs, ccs⟩ ∧ vs[2]? = some (.str file tf) ∧ ((prog.main.file : Str) == file) = true
  sup0 : PySem.W.nsIn K mainGlobals "super" = some none
  any0 : PySem.W.nsIn K cStatics "thirdparty.any" = some none
  top0 : (prog.main.scope.names.lookup ("super" : Str)).isSome = false
/-- what its __init__ says -/
structure InitF (K : PySem.W.Frag) (fI cc cda : Addr) (fs : List Str) (fd : FuncData) : Prop where
  at_ : ∃ oc od osl, K.lookup fI = some ⟨oc, od, .func fd, osl⟩
  cd : PySem.W.codeIn K (.ref cda) fd.qualname = true
  form : ∃ name qual params m j p0 p1 p2 p3 p4 p5 qs scope dV kV doc pm an ct, fd = PySem.W.ksFn name qual params (supSt m j p0 p1 p2 p3 p4 p5 :: (fs.zip qs).map fun z => fldSt z.1 z.2) scope dV kV doc pm an (.ref cda) ct cc ∧ fs.length = qs.length ∧
    scope.names.lookup ("super" : Str) = some .globalImplicit ∧ scope.names.lookup ("__class__" : Str) = some .free ∧ scope.names.lookup ("self" : Str) = some .local ∧ (∀ f ∈ fs, scope.names.lookup f = some .local) ∧ scope.kind = .function ∧
    (∀ y ∈ scope.names, y.2 ≠ .cell) ∧ scope.isCoroutine = false ∧ scope.isGenerator = false ∧ (∃ ar, (params.posonlyargs ++ params.args).head? = some ar ∧ ar.arg = "self") ∧
    ∀ env : Env, ∃ pl : Sem Bool, eval (.Call (.Attribute (.Call (.Name "super" p0) [] [] p1) "__init__" p2) [.Constant (.str m) j p3] [] p4) env = (do
      let ov ← attributeBase (.Call (.Name "super" p0) [] [] p1) "__init__" env (eval (.Call (.Name "super" p0) [] [] p1) env)
      standAt p2.atName
      let (f, first) ← holding [ov] (getMethod ov "__init__" pl)
      callWith p4 f first (backTo p4 (starEach [.Constant (.str m) j p3] env)) [])
  bind : ∀ (s : Shared) (v : Value) (us : List Value), us.length = fs.length → BindsTo s fd ⟨v :: us, []⟩ (("self", v) :: fs.zip us)
  dist : fs.Nodup ∧ ("self" : Str) ∉ fs ∧ fs ≠ [] ∧ fs.length ≤ 5 ∧ ∀ f ∈ fs, (f == ("__debug__" : Str)) = false
section
open PySem.W PySem.Calls
variable {prog : Program} {w : World} {A : Around} {E : Value → Shared → Prop} {K : Frag} {C x fI cc cda : Addr} {B newId initId : String} {bmB : List Value} {hp : Heap} {g : Array GenState} {d : Drawn} {t : Nat} {os : OsState} {c : Str} {fs : List Str} {fd : FuncData}
/-- the stores behind the first one -/
theorem xst_rest {env : Env} {mL : Str → Option Value} {t1 dx : Addr} (SF : StoreFacts B bmB "object.__setattr__" "object") (ex : ExI prog K c C fI cc cda B newId initId bmB fs) (hk : env.scope.kind = .function) (hs : env.kindOf "self" = some .local) (hself : mL "self" = some (.ref x)) :
    ∀ (qs : List (Str × Pos × Pos × Pos × Pos)) (us : List Value) (hp : Heap) (t : Nat) (m0 : Str → Option Value) (nl : List Str) (Q : Flow → Shared → Prop), K.In hp → (∀ z ∈ qs, z.1 ∈ fs ∧ env.kindOf z.1 = some .local ∧ (z.1 == ("__debug__" : Str)) = false) → (∀ z ∈ qs.zip us, mL z.1.1 = some z.2) → qs.length = us.length →
      hp.get? x = some (excObj C t1 (some dx) .none) → hp.Ns env.locals mL → env.locals ≠ dx → hp.Ns1 dx m0 → Within m0 nl → nl.length + qs.length ≤ 1000 → dx ≠ x → K.lookup dx = none →
      (∀ h' tk' m', (∀ b o, b ≠ dx → hp.get? b = some o → h'.get? b = some o) → h'.Ns1 dx m' → (∀ f, m' f = match ((qs.map (·.1)).zip us).reverse.lookup f with | some u => some u | none => m0 f) → Q .next ⟨h', g, d, tk', os⟩) →
      wpAny (model prog w) A (execs (qs.map fun z => fldSt z.1 z.2) env) Q E ⟨hp, g, d, t, os⟩
  | [], us, hp, t, m0, nl, Q, X, _, _, hl, hx, hL, hne, hn, hw, hz, hdx, hkd, q => by
    match us, hl with
    | [], _ => exact wpAny_execs_nil (q hp t m0 (fun _ _ _ h => h) hn fun f => rfl)
  | z :: qs, [], hp, t, m0, nl, Q, X, _, _, hl, _, _, _, _, _, _, _, _, _ => by cases hl
  | z :: qs, u :: us, hp, t, m0, nl, Q, X, hq, hm, hl, hx, hL, hne, hn, hw, hz, hdx, hkd, q => by
    obtain ⟨hf, hloc, hdb⟩ := hq z List.mem_cons_self
    have hu : mL z.1 = some u := hm (z, u) (by rw [List.zip_cons_cons]; exact List.mem_cons_self)
    rw [List.length_cons] at hz
    rw [List.map_cons]
    refine wpAny_execs_cons (plainObj_wpAny_Assign_Attribute (wpAny_Name (wpAny_loadName_local hk hloc hL hu (wpAny_Name (wpAny_loadName_local hk hs hL hself ?_) (by decide))) hdb) ?_)
    · refine xst_old SF X hx hn hw (by omega) ex.sa ex.ov (ex.tkr _ hf) ex.hd fun h' tk' k hn' => ?_
      have Xn : K.In h' := fun b o e => k b o (fun y => by rw [y, hkd] at e; cases e) (X b o e)
      obtain ⟨oL, es, ep, eL, rL⟩ := hL
      refine xst_rest SF ex hk hs hself qs us h' tk' _ (z.1 :: nl) Q Xn (fun y hy => hq y (List.mem_cons_of_mem _ hy)) (fun y hy => hm y (by rw [List.zip_cons_cons]; exact List.mem_cons_of_mem _ hy)) (by simpa using hl) (k x _ (Ne.symm hdx) hx) ⟨oL, es, ep, k _ _ hne eL, rL⟩ hne hn' (Within.cons z.1 u hw) (by rw [List.length_cons]; omega) hdx hkd ?_
      intro h2 tk2 m' k2 hn2 hm2
      refine q h2 tk2 m' (fun b o hb e => k2 b o hb (k b o hb e)) hn2 fun f => ?_
      rw [hm2 f, List.map_cons, List.zip_cons_cons, List.reverse_cons, List.lookup_append]
      cases e : ((qs.map (·.1)).zip us).reverse.lookup f with
      | some v => rfl
      | none =>
        by_cases hff : f = z.1
        · subst hff; simp [List.lookup]
        · have e2 : (f == z.1) = false := by simpa using hff
          simp [List.lookup, e2, hff]
    · rfl
theorem look_zip_rev {V : Type} : ∀ {ns : List Str} {us : List V} (f : Str), ns.Nodup → (ns.zip us).reverse.lookup f = (ns.zip us).lookup f
  | [], _, _, _ => rfl
  | _ :: _, [], _, _ => rfl
  | n :: ns, u :: us, f, hd => by
    rw [List.nodup_cons] at hd
    rw [List.zip_cons_cons, List.reverse_cons, List.lookup_append, look_zip_rev f hd.2]
    by_cases e : f = n
    · subst e
      have h : (ns.zip us).lookup f = none := by
        rw [List.lookup_eq_none_iff]
        intro p hp
        have := (List.of_mem_zip hp).1
        simp only [bne_iff_ne, ne_eq, beq_iff_eq]
        first
          | exact fun z => hd.1 (z ▸ this)
          | (simp; exact fun z => hd.1 (z ▸ this))
      rw [h]; simp [List.lookup]
    · have e2 : (f == n) = false := by simpa using e
      have e3 : List.lookup f ((n, u) :: ns.zip us) = List.lookup f (ns.zip us) := by rw [List.lookup_cons, e2]
      have e4 : List.lookup f [(n, u)] = none := by rw [List.lookup_cons, e2]; rfl
      rw [e3, e4, Option.or_none]
theorem look_mem_zip {V : Type} : ∀ {ns : List Str} {us : List V} {z : Str × V}, ns.Nodup → z ∈ ns.zip us → (ns.zip us).lookup z.1 = some z.2
  | [], _, _, _, h => by simp at h
  | _ :: _, [], _, _, h => by simp at h
  | n :: ns, u :: us, z, hd, h => by
    rw [List.nodup_cons] at hd
    rw [List.zip_cons_cons] at h ⊢
    rcases List.mem_cons.mp h with rfl | h
    · rw [List.lookup_cons, beq_self_eq_true]
    · have e : (z.1 == n) = false := by
        have := (List.of_mem_zip h).1
        simpa using fun y : z.1 = n => hd.1 (y ▸ this)
      rw [List.lookup_cons, e]
      exact look_mem_zip hd.2 h
/-- all stores of __init__ -/
theorem xst_all {env : Env} {mL : Str → Option Value} {t1 : Addr} {f : Str} {q : Pos × Pos × Pos × Pos} {u : Value} {qs : List (Str × Pos × Pos × Pos × Pos)} {us : List Value} {Q : Flow → Shared → Prop} (SF : StoreFacts B bmB "object.__setattr__" "object") (ex : ExI prog K c C fI cc cda B newId initId bmB fs) (hk : env.scope.kind = .function) (hs : env.kindOf "self" = some .local) (hself : mL "self" = some (.ref x))
    (X : K.In hp) (hxk : K.lookup x = none) (hf : f ∈ fs ∧ env.kindOf f = some .local ∧ (f == ("__debug__" : Str)) = false) (hfu : mL f = some u) (hq : ∀ z ∈ qs, z.1 ∈ fs ∧ env.kindOf z.1 = some .local ∧ (z.1 == ("__debug__" : Str)) = false) (hm : ∀ z ∈ qs.zip us, mL z.1.1 = some z.2) (hl : qs.length = us.length)
    (hx : hp.get? x = some (excObj C t1 none .none)) (hL : hp.Ns env.locals mL) (hLx : env.locals ≠ x) (hz : qs.length ≤ 900) (hnd : (f :: qs.map (·.1)).Nodup)
    (fin : ∀ h' tk' m' dx, (∀ b o, b ≠ x → hp.get? b = some o → h'.get? b = some o) → hp.objs.size ≤ dx → dx ≠ x → h'.get? x = some (excObj C t1 (some dx) .none) → h'.Ns1 dx m' → (∀ y, m' y = ((f, u) :: (qs.map (·.1)).zip us).lookup y) → Q .next ⟨h', g, d, tk', os⟩) :
    wpAny (model prog w) A (execs (fldSt f q :: qs.map fun z => fldSt z.1 z.2) env) Q E ⟨hp, g, d, t, os⟩ := by
  refine wpAny_execs_cons (plainObj_wpAny_Assign_Attribute (wpAny_Name (wpAny_loadName_local hk hf.2.1 hL hfu (wpAny_Name (wpAny_loadName_local hk hs hL hself ?_) (by decide))) hf.2.2) ?_)
  · refine xst_new SF X hx ex.sa ex.ov (ex.tkr _ hf.1) ex.hd fun h5 tk5 dx k5 hdx hdxx hx5 hn5 => ?_
    have hd4 : env.locals ≠ dx := by
      obtain ⟨oL, es, ep, eL, rL⟩ := hL
      exact Nat.ne_of_lt (Nat.lt_of_lt_of_le (Heap.lt_size eL) hdx)
    have hKd : K.lookup dx = none := by
      cases e : K.lookup dx with
      | none => rfl
      | some o => exact absurd (Heap.lt_size (X _ _ e)) (Nat.not_lt.mpr hdx)
    have nx : ∀ {b : Addr} {o : Obj}, K.lookup b = some o → b ≠ x := fun {b o} e z => by rw [z, hxk] at e; cases e
    have X5 : K.In h5 := fun b o e => k5 b o (nx e) (X b o e)
    have hL5 : h5.Ns env.locals mL := by
      obtain ⟨oL, es, ep, eL, rL⟩ := hL
      exact ⟨oL, es, ep, k5 _ _ hLx eL, rL⟩
    refine xst_rest SF ex hk hs hself qs us h5 tk5 _ [f] _ X5 hq hm hl hx5 hL5 hd4 hn5 (Within.cons f u Within.nil) (by rw [List.length_singleton]; omega) hdxx hKd ?_
    intro h6 tk6 m6 k6 hn6 hm6
    have hne : ∀ b o, hp.get? b = some o → b ≠ dx := fun b o e => Nat.ne_of_lt (Nat.lt_of_lt_of_le (Heap.lt_size e) hdx)
    refine fin h6 tk6 m6 dx (fun b o hb e => k6 b o (hne b o e) (k5 b o hb e)) hdx hdxx (k6 _ _ hdxx.symm hx5) hn6 fun y => ?_
    rw [List.nodup_cons] at hnd
    rw [hm6 y, look_zip_rev y hnd.2]
    by_cases e : y = f
    · subst e
      have h0 : ((qs.map (·.1)).zip us).lookup y = none := by
        rw [List.lookup_eq_none_iff]
        intro p hp
        have := (List.of_mem_zip hp).1
        first
          | exact fun z => hnd.1 (z ▸ this)
          | (simp; exact fun z => hnd.1 (z ▸ this))
      rw [h0, List.lookup_cons, beq_self_eq_true]
      simp
    · have e2 : (y == f) = false := by simpa using e
      rw [List.lookup_cons, e2]
      cases ((qs.map (·.1)).zip us).lookup y with
      | some v => rfl
      | none => simp [e]
  · rfl
/-- __init__ is run -/
theorem init_run {us : List Value} {mg mb : Str → Option Value} {t0 : Addr} {R : Result → Shared → Prop} (FB : XB newId initId bmB) (SF : StoreFacts B bmB "object.__setattr__" "object") (KF : KxsFacts B initId) (ex : ExI prog K c C fI cc cda B newId initId bmB fs) (inf : InitF K fI cc cda fs fd)
    (X : K.In hp) (hlim : hp.NoLimit) (hg : hp.Ns mainGlobals mg) (hgs : mg "super" = none) (hb : hp.Ns builtinsNs mb) (hbs : mb "super" = some (.type "super")) (hroom : A.depth < recursionLimit) (hx : hp.get? x = some (excObj C t0 none .none)) (hxk : K.lookup x = none) (hl : us.length = fs.length)
    (fin : ∀ h' tk dx t1 m', (∀ b o, b ≠ x → hp.get? b = some o → h'.get? b = some o) → h'.get? x = some (excObj C t1 (some dx) .none) → hp.objs.size ≤ dx → dx ≠ x → h'.Ns1 dx m' → (∀ f, m' f = (fs.zip us).lookup f) → R (.ok (.ret .none)) ⟨h', g, d, tk, os⟩) :
    codeAny (model prog w) A (.call (.ref fI) ⟨.ref x :: us, []⟩) R ⟨hp, g, d, t, os⟩ := by
  obtain ⟨oc, od, osl, lk⟩ := inf.at_
  obtain ⟨name, qual, params, m, j, p0, p1, p2, p3, p4, p5, qs, scope, dV, kV, doc, pm, an, ct, rfl, hqs, hks, hkc, hka, hkf, hk, hcell, hco, hgen, ⟨ar, har, hars⟩, hev⟩ := inf.form
  obtain ⟨hnd, hsf, hne, hle, hdbg⟩ := inf.dist
  obtain ⟨ccl, cdd, vs, ccs, file, tf, hcode, hvs, hfile⟩ := ex.code
  obtain ⟨cl, cld, csl, hcel⟩ := ex.cell
  have hloc : ∀ y ∈ ((("self" : Str), Value.ref x) :: fs.zip us), scope.names.lookup y.1 = some NameKind.local := by
    intro y hy
    rcases List.mem_cons.mp hy with rfl | hy
    · exact hka
    · exact hkf _ (List.of_mem_zip hy).1
  obtain ⟨oD, cdD, hD0, hD1, hDc⟩ : ∃ oD cdD, K.lookup C = some oD ∧ oD.data = .cls cdD ∧ clsIn K C = some cdD := by
    obtain ⟨cd', hc', _⟩ := any_some ex.hd
    have hc2 := hc'
    unfold clsIn at hc2
    split at hc2
    · rename_i a1 a2 a3 a4 ho
      cases hc2
      exact ⟨_, _, ho, rfl, hc'⟩
    · cases hc2
  refine ks_codeAny_call_defAt hroom (X _ _ lk) rfl hlim (codeRec_of X inf.cd) rfl (inf.bind ⟨hp, g, d, t, os⟩ (.ref x) us hl) hcell hloc (fun h1 hns1 k1 => ?_) hco hgen hk
  have X1 : K.In h1 := X.keeps k1
  have mself : (((("self" : Str), Value.ref x) :: fs.zip us).reverse).lookup ("self" : Str) = some (.ref x) := by
    rw [List.reverse_cons, List.lookup_append]
    have h0 : (fs.zip us).reverse.lookup ("self" : Str) = none := by
      rw [look_zip_rev _ hnd, List.lookup_eq_none_iff]
      intro p hp
      have := (List.of_mem_zip hp).1
      first
        | exact fun z => hsf (z ▸ this)
        | (simp; exact fun z => hsf (z ▸ this))
    rw [h0]; simp [List.lookup]
  have mfld : ∀ f u, (fs.zip us).lookup f = some u → ((("self" : Str), Value.ref x) :: fs.zip us).reverse.lookup f = some u := fun f u e => by
    rw [List.reverse_cons, List.lookup_append, look_zip_rev _ hnd, e]; rfl
  obtain ⟨pl, hev⟩ := hev (ksEnv qual scope hp.objs.size fI (.ref cda) cc)
  refine ks_wpAt_execs_cons (ks_wpAt_Expr_any (ks_wpAt_MethodCall (pl := pl) ?_ hev) (by show (scope.kind == ScopeKind.module && _) = false; rw [hk]; rfl))
  refine ks_wpAt_super_base (env := ksEnv qual scope hp.objs.size fI (.ref cda) cc) hks hkc (by decide) rfl (k1 _ _ (X _ _ lk)) rfl har rfl (k1 _ _ (X _ _ hcode)) rfl hvs hfile ex.top0 ?_
  refine ks_loadName_global hk hks (loadGlobal_builtin (env := ksEnv qual scope hp.objs.size fI (.ref cda) cc) (hg.keeps k1) hgs (hb.keeps k1) hbs ⟨rfl, ?_⟩)
  refine wpAny_loadName_free hk hkc rfl ⟨_, X1 _ _ hcel, rfl⟩ ?_
  refine wpAny_loadName_local hk (by rw [hars]; exact hka) hns1 (by rw [hars]; exact mself) ?_
  refine ks_wpAny_isType_cls (X1 _ _ hD0) hD1 ⟨rfl, ?_⟩
  refine ks_wpAny_call_super (X1 _ _ hD0) hD1 (k1 _ _ hx) rfl (fun c e => by cases e) (looks_mroIn X1 ex.mro) (fun h2 e2 k2 => ?_)
  have X2 : K.In h2 := X1.keeps k2
  have hx2 : h2.get? x = some (excObj C t0 none .none) := k2 _ _ (k1 _ _ hx)
  have I2 : InstAt h2 x (excObj C t0 none .none) C none := ⟨hx2, rfl, rfl, trivial⟩
  have hsup := ex.sup
  unfold ks_superIn at hsup
  rw [hDc] at hsup
  refine kxs_getMethod KF e2 (looks_opaque X2 ex.any0) (l₀ := cdD.mro) ((looks_clsIn X2 hDc).andThen .now) rfl X2 hsup (I2.type.andThen (looks_subIn X2 ex.sB)) (ks_ne X2 I2 hDc) (by decide) ?_
  have k3 : ∀ b o, h2.get? b = some o → (h2.push (kxs_mw initId x)).get? b = some o := fun b o e => Heap.get?_push_of_some _ e
  have hu3 : (h2.push (kxs_mw initId x)).get? h2.objs.size = some (kxs_mw initId x) := Heap.get?_push_at rfl rfl
  refine kxs_callWith (i := initId) (x := x) rfl (evalArgs_plain (args_cons (Calls.Constant_str (args_nil ⟨hu3, ?_⟩))))
  refine xin_call FB ex.ex (X2.keeps k3) hu3 (k3 _ _ hx2) (by show 1 ≤ sizeLine; rw [sizeLine_eq]; omega) fun h4 t4 k4 hx4 => ?_
  have nx : ∀ {b : Addr} {o : Obj}, K.lookup b = some o → b ≠ x := fun {b o} e z => by rw [z, hxk] at e; cases e
  have X4 : K.In h4 := fun b o e => k4 b o (nx e) (X2.keeps k3 b o e)
  have hxL : x < hp.objs.size := Heap.lt_size hx
  have hLx : hp.objs.size ≠ x := Nat.ne_of_gt hxL
  have up : ∀ b o, b ≠ x → h1.get? b = some o → h4.get? b = some o := fun b o hb e => k4 b o hb (k3 _ _ (k2 _ _ e))
  have hL4 : h4.Ns hp.objs.size (fun y => ((("self" : Str), Value.ref x) :: fs.zip us).reverse.lookup y) := by
    obtain ⟨oL, es, ep, eL, rL⟩ := hns1
    exact ⟨oL, es, ep, up _ _ hLx eL, rL⟩
  refine wpAt_of_wpAny ?_
  have hfu : ∀ z ∈ fs.zip us, ((("self" : Str), Value.ref x) :: fs.zip us).reverse.lookup z.1 = some z.2 := fun z hz => mfld _ _ (look_mem_zip hnd hz)
  have hall : ∀ f ∈ fs, f ∈ fs ∧ (ksEnv qual scope hp.objs.size fI (.ref cda) cc).kindOf f = some .local ∧ (f == ("__debug__" : Str)) = false := fun f hf => ⟨hf, hkf f hf, hdbg f hf⟩
  cases hfs : fs with
  | nil => exact absurd hfs hne
  | cons f fs' =>
    cases us with
    | nil => rw [hfs] at hl; cases hl
    | cons u us =>
      cases qs with
      | nil => rw [hfs] at hqs; cases hqs
      | cons q qs =>
        rw [hfs] at hqs hl hle hnd
        have hqs' : fs'.length = qs.length := by simpa using hqs
        have hl' : us.length = fs'.length := by simpa using hl
        have em : (fs'.zip qs).map (·.1) = fs' := List.map_fst_zip (by omega)
        rw [List.zip_cons_cons, List.map_cons]
        refine xst_all (env := ksEnv qual scope hp.objs.size fI (.ref cda) cc) (mL := fun y => ((("self" : Str), Value.ref x) :: fs.zip (u :: us)).reverse.lookup y) (u := u) (us := us) SF ex hk hka mself X4 hxk (hall f (by rw [hfs]; exact List.mem_cons_self)) (hfu (f, u) (by rw [hfs, List.zip_cons_cons]; exact List.mem_cons_self)) (fun z hz => hall _ (by rw [hfs]; exact List.mem_cons_of_mem _ (List.of_mem_zip hz).1)) (fun z hz => ?_) (by rw [List.length_zip]; omega) hx4 hL4 hLx (by rw [List.length_zip]; simp at hle; omega) (by rw [em]; exact hnd) ?_
        · obtain ⟨z1, z2⟩ := z
          refine hfu (z1.1, z2) ?_
          rw [hfs, List.zip_cons_cons]
          refine List.mem_cons_of_mem _ ?_
          obtain ⟨i, hi, e⟩ := List.mem_iff_getElem.mp hz
          rw [List.getElem_zip] at e
          obtain ⟨e1, e2⟩ := Prod.mk.inj e
          rw [List.getElem_zip] at e1
          rw [List.length_zip, List.length_zip] at hi
          refine List.mem_iff_getElem.mpr ⟨i, by rw [List.length_zip]; omega, ?_⟩
          rw [List.getElem_zip, ← e1, ← e2]
        · intro h6 tk6 m6 dx k6 hdx hdxx hx6 hn6 hm6
          have hsz : hp.objs.size ≤ dx := by
            obtain ⟨oL, es, ep, eL, rL⟩ := hL4
            exact Nat.le_trans (Nat.le_of_lt (Heap.lt_size eL)) hdx
          refine fin h6 tk6 dx t4 m6 (fun b o hb e => k6 b o hb (up b o hb (k1 b o e))) hx6 hsz hdxx hn6 fun y => ?_
          rw [hm6 y, em, hfs, List.zip_cons_cons]
end
theorem relO_zip : ∀ {fs : List Str} {vs : List V} {us : List Value} (f : Str), Vals vs us → RelO ((fs.zip vs).lookup f) ((fs.zip us).lookup f)
  | [], _, _, _, _ => True.intro
  | _ :: _, _, _, _, .nil => True.intro
  | n :: fs, _, _, f, .cons (b := u) r t => by
    rw [List.zip_cons_cons, List.zip_cons_cons, List.lookup_cons, List.lookup_cons]
    cases f == n with
    | true => exact r
    | false => exact relO_zip f t
def tMkI (C : Addr) (fs : List Str) (ta : TA) : L2.St → Hp → XK → Prop := fun σ H Q => ta σ H fun vs H1 => vs.length = fs.length ∧ ∀ d, H1 d = none → Q (.ref C) (some d) (upd H1 d (.xd (fs.zip vs)))
section
variable {X : Cx} {C fI cc cda : Addr} {B newId initId : String} {bmB : List Value} {x : Str} {fs : List Str} {fd : FuncData} {e : Expr} {es : List Expr} {ta : TA} {p pos : Pos} {k : Nat}
theorem pmk_I (FB : XB newId initId bmB) (SF : StoreFacts B bmB "object.__setattr__" "object") (KF : PySem.W.KxsFacts B initId) (ex : ExI X.prog X.K x C fI cc cda B newId initId bmB fs) (inf : InitF X.K fI cc cda fs fd) (hr : Room k X.A) (hg : Gl X x) (hm : X.mg x = some (.ref C)) (ha : PA X (e :: es) ta)
    (hdb : (x == ("__debug__" : Str)) = false := by decide) (he : starEach (e :: es) X.env = (false, eval e X.env) :: starEach es X.env := by rfl) (hpl : (backTo pos (starEach es X.env)).any (·.1) = false := by rfl) :
    PMk X (.Call (.Name x p) (e :: es) [] pos) (tMkI C fs ta) := by
  intro pins s σ H Q I h
  refine wpAny_Call_Name_kw (ld_glob I hg hm ?_ hdb)
  refine PySem.W.callWith_K (h₀ := X.base) I.ok.mod.kin ex.kp (thn (ha.run pos pins s σ H _ I h) fun us s1 ⟨vs, H1, I1, r1, hz, q1⟩ => ⟨I1.kIn, ?_⟩) he hpl
  show wpAny _ _ (call (.ref C) us) _ _ _
  obtain ⟨hp, g, dr, tk, os⟩ := s1
  obtain ⟨nm, N', qn, bs, bm, hdct, sn, sub, ab, col, dd, k0, k1, k2, k3, k5, hC, hT⟩ := PySem.W.excInit_of I1.kIn ex.ex
  obtain ⟨hnd, hsf, hne, hle, hdbg⟩ := inf.dist
  have hul : us.length = fs.length := by rw [← Paired.length r1]; exact hz
  have hus : us.length ≤ sizeLine := by rw [hul, sizeLine_eq]; omega
  obtain ⟨oI, hoI, hcI⟩ : ∃ oI, hp.get? fI = some oI ∧ oI.cls = .type "function" := by
    obtain ⟨o, ho, hc⟩ := Option.map_eq_some_iff.mp (show (X.K.lookup fI).map (·.cls) = some (.type "function") from beq_iff_eq.mp ex.fn)
    exact ⟨o, I1.kIn _ _ ho, hc⟩
  have hget : ((hp.push (PySem.W.excTup us)).push (PySem.W.excObj C hp.objs.size none .none)).get? (hp.objs.size + 1) = some (PySem.W.excObj C hp.objs.size none .none) := by heap_get
  have kk : ∀ b o, hp.get? b = some o → ((hp.push (PySem.W.excTup us)).push (PySem.W.excObj C hp.objs.size none .none)).get? b = some o := fun b o e => Heap.get?_push_of_some _ (Heap.get?_push_of_some _ e)
  have hsz : hp.objs.size ≤ hp.objs.size + 1 := Nat.le_succ _
  have M := I1.mod
  have bk : ∀ b o, X.base.get? b = some o → hp.get? b = some o := I1.bk
  obtain ⟨mb, hmb, hbb⟩ := M.blt
  have bk2 : ∀ b o, X.base.get? b = some o → ((hp.push (PySem.W.excTup us)).push (PySem.W.excObj C hp.objs.size none .none)).get? b = some o := fun b o e => kk b o (bk b o e)
  have hxk : X.K.lookup (hp.objs.size + 1) = none := by
    cases e : X.K.lookup (hp.objs.size + 1) with
    | none => rfl
    | some o => exact absurd (Heap.lt_size (I1.kIn _ _ e)) (Nat.not_lt.mpr hsz)
  have hroom : (X.A.under (.builtin "type.__call__" ⟨.ref C :: us, []⟩)).depth < recursionLimit := by have := hr.dp; rw [make_depth]; omega
  refine wpAny_call (FB.made hT hC (PySem.W.looks_findIn I1.kIn ex.ini) (fun self => PySem.W.exc_bind hoI hcI self) hus ?_)
  refine init_run FB SF KF ex inf (I1.kIn.keeps kk) (M.nolimit.keeps bk2) (M.glob.keeps bk2) (PySem.W.mg_none_of M.kin M.glob ex.sup0) (hmb.keeps bk2) ((hbb _ (by decide)).trans PyProof.Rows.Boot.«super») hroom hget hxk hul ?_
  intro h' tk' dx t1 m' hk hx' hdx hdxx hn' hm'
  refine ⟨rfl, ?_⟩
  have hdx' : hp.objs.size ≤ dx := by
    rw [Heap.size_push, Heap.size_push] at hdx
    omega
  obtain ⟨G, g1, g2⟩ := restrict h' fun b => decide (b ≠ hp.objs.size + 1)
  have gk : ∀ b, b ≠ hp.objs.size + 1 → G.get? b = h'.get? b := fun b hb => g1 b (decide_eq_true hb)
  have ge : G.get? (hp.objs.size + 1) = none := g2 _ (by simp)
  have kG : ∀ b o, hp.get? b = some o → G.get? b = some o := fun b o e => by
    have hb : b ≠ hp.objs.size + 1 := Nat.ne_of_lt (Nat.lt_succ_of_lt (Heap.lt_size e))
    rw [gk b hb]
    exact hk b o hb (kk b o e)
  have J : Inv X pins σ (upd H1 dx (.xd (fs.zip vs))) ⟨G, g, dr, tk', os⟩ := I1.laid (t' := tk') (a := dx) (o := .xd (fs.zip vs)) (h' := G) kG hdx' ⟨m', hn'.at fun o y => (gk dx hdxx).trans y, fun f => by rw [hm' f]; exact relO_zip f r1⟩
  have na : (upd H1 dx (.xd (fs.zip vs))) (hp.objs.size + 1) = none := by rw [upd_ne hdxx.symm]; exact I1.hok.fresh hsz
  refine ⟨hp.objs.size + 1, _, _, ⟨G, g, dr, tk', os⟩, _, .ref C, some dx, rfl, J, fun b o e => ?_, ge, hx', ⟨rfl, rfl⟩, rfl, rfl, na, rfl, I1.bare, raises_own ex.sb ex.ty, q1 dx (I1.hok.fresh hdx')⟩
  by_cases hb : b = hp.objs.size + 1
  · rw [hb, ge] at e; cases e
  · exact (gk b hb).symm.trans e
end
/-- raise X(..), X an own class that keeps its arguments -/
def dRaiseI (c : Str) (fs : List Str) (aa : DA) : DTS := fun E ds ms => aa ds ms fun xs m => xs.length = fs.length ∧ E.ex c fs xs ds m
section
variable {X : Cx} {W : WX} {C fI cc cda : Addr} {B newId initId : String} {bmB : List Value} {x : Str} {fs : List Str} {fd : FuncData} {e : Expr} {es : List Expr} {aa : DA} {p pos pos' : Pos} {k : Nat}
theorem px_raiseI (hc : X.calm = true) (tk : Takes X W) (FB : XB newId initId bmB) (SF : StoreFacts B bmB "object.__setattr__" "object") (KF : PySem.W.KxsFacts B initId) (ex : ExI X.prog X.K x C fI cc cda B newId initId bmB fs) (inf : InitF X.K fI cc cda fs fd) (hr : RoomG k X.A) (hg : Gl X x) (hm : X.mg x = some (.ref C)) (ha : PDA X (e :: es) aa)
    (hdb : (x == ("__debug__" : Str)) = false := by decide) (he : starEach (e :: es) X.env = (false, eval e X.env) :: starEach es X.env := by rfl) (hpl : (backTo pos (starEach es X.env)).any (·.1) = false := by rfl) :
    PX X W (.Raise (some (.Call (.Name x p) (e :: es) [] pos)) none pos') (dRaiseI x fs aa) :=
  psImp (ps_raise hc tk (pmk_I FB SF KF ex inf hr.r hg hm ha hdb he hpl)) fun D σ H ⟨F0, ds, ms, E, R, S, h, _, _, _, _, z⟩ =>
    ⟨F0, ds, ms, _, R, S, h, fun xs m vs F1 H1 p1 R1 s1 rs => ⟨rs.length.trans p1.1, fun d hd => by
      have sb : Sub F1 (upd F1 d (.xd (fs.zip vs))) := Sub.new (R1.sub.none hd)
      exact z x fs xs ds m _ (some d) vs σ (upd F1 d (.xd (fs.zip vs))) _ p1.2 (R1.new hd) (s1.trans (Stp.new R1 hd)) ((S.mono s1.sub).mono sb) ex.ns (.inr ⟨d, rfl, upd_same, by rw [rs.length]; exact p1.1.symm, inf.dist.2.2.1⟩) (rs.mono sb)⟩⟩
end
end DL
namespace DL
open PySem PySem.Spec PyProof.Rows L2
abbrev ZD := Str → List Str → List D → DS → MS → Prop
def liftZ (K : PySem.W.Frag) (W : WX) (Z : ZD) (de : DE) : TE := fun σ H Q => ∃ F ds ms P, Rel K F H ms ∧ Sl K F σ ds ∧ de ds ms P ∧
  (∀ d ms' v F' H', P d ms' → Rel K F' H' ms' → Stp F H ms F' H' ms' → DR K F' v d → Q v H') ∧
  (∀ c ns xs ms' cv d ws F' H', Z c ns xs ds ms' → Rel K F' H' ms' → Stp F H ms F' H' ms' → PySem.W.nsIn K mainGlobals c = some (some cv) → XD F' d ns ws → DRs K F' ws xs → W cv d σ H')
abbrev PDZ (X : Cx) (W : WX) (Z : ZD) (e : Expr) (de : DE) : Prop := PE X e (liftZ X.K W Z de)
def dCallZ (n m : Nat) (is : List Nat) (fx : FX) (aa ak : DA) (Z : ZD) : DE := fun ds ms P => aa ds ms fun xs m1 => ak ds m1 fun zs m2 => xs.length = n ∧ zs.length = m ∧ fx (pick is (xs ++ zs)) m2 P fun c ns ys m' => Z c ns ys ds m'
section
variable {X : Cx} {W : WX} {Z : ZD} {k n m i : Nat} {f : Addr} {fd : FuncData} {ps ks : List Str} {is : List Nat} {fx : FX} {x y : Str} {p pos kpos py : Pos} {e o : Expr} {es : List Expr} {kws : List Keyword} {aa ak : DA} {da dx : DE}
def tCallXZ (K : PySem.W.Frag) (W : WX) (n m : Nat) (is : List Nat) (fx : FX) (t tk : TA) : TE := fun σ H Q => t σ H fun vs H1 => tk σ H1 fun zs H2 => vs.length = n ∧ zs.length = m ∧ spX K fx (pick is (vs ++ zs)) H2 Q fun cv d H3 => W cv d σ H3
theorem run_x {pins : List (Addr × Obj)} {σ : L2.St} {H : Hp} {s : Shared} {Q : VK} {us ws : List Value} {vs zs : List V} (tk : Takes X W) (F : FnX X.prog X.w X.K X.mg X.base k f fd ps (spX X.K fx)) (hr : RoomG k X.A) (hb : Bnd X.K fd ps n ks is)
    (I : Inv X pins σ H s) (r : Vals vs us) (rz : Vals zs ws) (l1 : vs.length = n) (l2 : zs.length = ks.length) (h : spX X.K fx (pick is (vs ++ zs)) H Q fun cv d H3 => W cv d σ H3) :
    wpAny (model X.prog X.w) X.A (call (.ref f) us (ks.zip ws)) (EP X pins σ Q) X.xe s := by
  have hb' := hb.to s us ws I.kIn (r.length ▸ l1) (rz.length ▸ l2)
  refine wpAny_call (codeAny_mono (F.go X.A X.stack s H ⟨us, ks.zip ws⟩ _ _ Q _ hr I.env0 hb' (pick_vals (r.append rz) is) h) fun r s' z => ?_)
  match r, z with
  | .error v, z => exact passAt tk σ pins H s v s' I z
  | .ok (.ret u), z => exact I.after z
  | .ok .next, z => exact False.elim z
  | .ok .brk, z => exact False.elim z
  | .ok .cont, z => exact False.elim z
theorem liftZ_call {K : PySem.W.Frag} : ∀ σ H Q, liftZ K W Z (dCallZ n m is fx aa ak Z) σ H Q → tCallXZ K W n m is fx (liftA K aa) (liftA K ak) σ H Q := fun σ H Q ⟨F, ds, ms, P, R, S, h1, h2, h3⟩ =>
  ⟨F, ds, ms, _, R, S, h1, fun xs m1 vs F1 H1 p1 R1 s1 r1 => ⟨F1, ds, m1, _, R1, S.mono s1.sub, p1, fun zs m2 ws F2 H2 p2 R2 s2 r2 => by
    obtain ⟨l1, l2, p2⟩ := p2
    refine ⟨r1.length.trans l1, r2.length.trans l2, F2, _, m2, P, _, R2, pick_drs ((r1.mono s2.sub).append r2) is, p2, fun d m3 v F3 H3 p3 R3 s3 r3 => ?_, fun c ns ys m3 cv d ws F3 H3 z R3 s3 hn hx hd => ?_⟩
    · exact h2 d m3 v F3 H3 p3 R3 (s1.trans (s2.trans s3)) r3
    · exact h3 c ns ys m3 cv d ws F3 H3 z R3 (s1.trans (s2.trans s3)) hn hx hd⟩⟩
theorem pdz_call (tk : Takes X W) (F : FnX X.prog X.w X.K X.mg X.base k f fd ps (spX X.K fx)) (hr : RoomG k X.A) (hg : Gl X x) (hm : X.mg x = some (.ref f)) (hk : PySem.W.keepIn X.K (.ref f) = true) (hb : Bnd X.K fd ps n [] is)
    (ha : PDA X (e :: es) aa) (hdb : (x == ("__debug__" : Str)) = false := by decide)
    (he : starEach (e :: es) X.env = (false, eval e X.env) :: starEach es X.env := by rfl)
    (hpl : (backTo pos (starEach es X.env)).any (·.1) = false := by rfl) :
    PDZ X W Z (.Call (.Name x p) (e :: es) [] pos) (dCallZ n 0 is fx aa aNil Z) := by
  refine peImp (t := tCallXZ X.K W n 0 is fx (liftA X.K aa) tNil) ⟨fun pins s σ H Q I h => ?_⟩ fun σ H Q h => ?_
  · refine wpAny_Call_Name_kw (ld_glob I hg hm ?_ hdb)
    refine PySem.W.callWith_K (h₀ := X.base) I.ok.mod.kin hk (thn (ha.run pos pins s σ H _ I h) ?_) he hpl
    rintro us s1 ⟨vs, H1, I1, r, l1, l2, q⟩
    exact ⟨I1.kIn, run_x (ws := []) (zs := []) (ks := []) tk F hr hb I1 r .nil l1 rfl q⟩
  · obtain ⟨F0, ds, ms, P, R, S, h1, h2⟩ := liftZ_call σ H Q h
    refine ⟨F0, ds, ms, P, R, S, h1, fun xs m v F1 H1 p1 R1 s1 r1 => ?_⟩
    obtain ⟨F2, ds2, m2, P2, R2, S2, p2, q2⟩ := h2 xs m v F1 H1 p1 R1 s1 r1
    exact q2 [] m2 [] F2 H1 p2 R2 Stp.refl .nil
def dExprZ (de : ZD → DE) : DTS := fun E ds ms => de E.ex ds ms fun _ m => E.nx ds m
def dRetZ (de : ZD → DE) : DTS := fun E ds ms => de E.ex ds ms E.rt
def dAsgZ (de : ZD → DE) (g : DG) : DTS := fun E ds ms => de E.ex ds ms fun d m => g d ds fun ds1 => E.nx ds1 m
variable {dz : ZD → DE}
theorem px_exprZ (he : ∀ Z, PDZ X W Z e (dz Z)) (hs : swapsWith e none pos.line X.env = pure false := by rfl) : PX X W (.Expr e pos) (dExprZ dz) :=
  ⟨fun pins s σ H D I ⟨F, ds, ms, E, R, S, h, n, r, k, q, x⟩ => (ps_expr (he E.ex) hs).run pins s σ H D I
    ⟨F, ds, ms, _, R, S, h, fun d m v F1 H1 p1 R1 s1 r1 => n ds m σ F1 H1 p1 R1 s1 (S.mono s1.sub), fun c ns xs m cv d ws F1 H1 z R1 s1 hn hx hd => x c ns xs ds m cv d ws σ F1 H1 z R1 s1 (S.mono s1.sub) hn hx hd⟩⟩
theorem px_setZ {i : Nat} {x : Str} {pos' : Pos} (hN : X.N.Nodup) (hi : X.N[i]? = some x) (hx : Loc X.env.scope x) (he : ∀ Z, PDZ X W Z e (dz Z)) (hs : swapsWith e (some (.Name x pos')) pos.line X.env = pure false := by rfl)
    (hf : X.fn x = true ∨ X.env.scope.names.lookup x = some .local := by first | exact .inl rfl | exact .inr rfl | assumption) : PX X W (.Assign [.Name x pos'] e pos) (dAsgZ dz (sName i)) :=
  ⟨fun pins s σ H D I ⟨F, ds, ms, E, R, S, h, n, r, k, q, x⟩ => (ps_set hN hi hx (he E.ex) hs hf).run pins s σ H D I
    ⟨F, ds, ms, _, R, S, h, fun d m v F1 H1 p1 R1 s1 r1 => n _ m _ F1 H1 p1 R1 s1 (Sl.set r1 i (S.mono s1.sub)), fun c ns xs m cv d ws F1 H1 z R1 s1 hn hx hd => x c ns xs ds m cv d ws σ F1 H1 z R1 s1 (S.mono s1.sub) hn hx hd⟩⟩
end
end DL
namespace DL
open PySem PySem.Spec PyProof.Rows L2
structure ExB (K : PySem.W.Frag) (c : Str) (C : Addr) : Prop where
  ns : PySem.W.nsIn K mainGlobals c = some (some (.ref C))
  kp : PySem.W.keepIn K (.ref C) = true
  sb : PySem.W.subIn K (.ref C) (.type "BaseException") = some true
  ty : PySem.W.typeIn K (.ref C) = some (.type "type")
  cc : ExcC K C
section
variable {K : PySem.W.Frag} {c1 c2 f : Str} {b1 : Bool} {C C2 : Addr} {cw : Value} {ml : List (Str × Bool)}
theorem mlE_b (E1 : ExB K c1 C) (E2 : ExB K c2 C2) (h : PySem.W.subIn K (.ref C) (.ref C2) = some b1) (r : MlE K (.ref C2) ml) : MlE K (.ref C2) ((c1, b1) :: ml) := fun c b cv hl hn => by
  rcases ml_split hl with ⟨rfl, rfl⟩ | hl
  · rw [E1.ns] at hn
    cases hn
    exact PySem.W.exm_ref E2.sb E2.cc.hd E2.ty h
  · exact r c b cv hl hn
theorem mlK_b (E1 : ExB K c1 C) (h : PySem.W.kitOne K (.ref C) cw = some b1) (r : MlK K cw ml) : MlK K cw ((c1, b1) :: ml) := mlK_cons E1.ns E1.cc h r
theorem mlF_b (E1 : ExB K c1 C) (h : PySem.W.findIn K (.ref C) f = some none) (r : MlF K f ml) : MlF K f ((c1, b1) :: ml) := mlF_cons E1.ns E1.cc h r
end
def clsInit (s : Stmt) : Stmt := match s with
  | .ClassDef _ _ _ b _ _ _ _ _ _ _ => (b.find? fun t => match t with | .FunctionDef .. => true | _ => false).getD (.Pass ⟨0, 0, 0, 0⟩)
  | _ => .Pass ⟨0, 0, 0, 0⟩
structure InitT (st : Stmt) (fs : List Str) : Prop where
  form : ∃ m j p0 p1 p2 p3 p4 p5 qs, defBody st = (supSt m j p0 p1 p2 p3 p4 p5 :: (fs.zip qs).map fun z => fldSt z.1 z.2) ∧ fs.length = qs.length ∧
    ∀ env : Env, ∃ pl : Sem Bool, eval (.Call (.Attribute (.Call (.Name "super" p0) [] [] p1) "__init__" p2) [.Constant (.str m) j p3] [] p4) env = (do
      let ov ← attributeBase (.Call (.Name "super" p0) [] [] p1) "__init__" env (eval (.Call (.Name "super" p0) [] [] p1) env)
      standAt p2.atName
      let (f, first) ← holding [ov] (getMethod ov "__init__" pl)
      callWith p4 f first (backTo p4 (starEach [.Constant (.str m) j p3] env)) [])
  k1 : (defScope st).names.lookup ("super" : Str) = some .globalImplicit
  k2 : (defScope st).names.lookup ("__class__" : Str) = some .free
  k3 : (defScope st).names.lookup ("self" : Str) = some .local
  k4 : ∀ f ∈ fs, (defScope st).names.lookup f = some .local
  k5 : (defScope st).kind = .function
  k6 : ∀ y ∈ (defScope st).names, y.2 ≠ .cell
  k7 : (defScope st).isCoroutine = false
  k8 : (defScope st).isGenerator = false
  k9 : ∃ ar, ((defArgs st).posonlyargs ++ (defArgs st).args).head? = some ar ∧ ar.arg = "self"
  bind : ∀ (name qual : Str) (kV doc pm : Value) (an : Option Addr) (cdv ct : Value) (cc : Addr) (v : Value) (us : List Value), us.length = fs.length →
    bindArgs (PySem.W.ksFn name qual (defArgs st) (defBody st) (defScope st) .none kV doc pm an cdv ct cc) ⟨v :: us, []⟩ = pure ((("self" : Str), v) :: fs.zip us)
  dist : fs.Nodup ∧ ("self" : Str) ∉ fs ∧ fs ≠ [] ∧ fs.length ≤ 5 ∧ ∀ f ∈ fs, (f == ("__debug__" : Str)) = false
theorem initF_mk {K : PySem.W.Frag} {fI cc cda : Addr} {st : Stmt} {fs : List Str} {name qual : Str} {kV doc pm ct oc : Value} {an od : Option Addr} {osl : Array (Option Value)} (T : InitT st fs)
    (lk : K.lookup fI = some ⟨oc, od, .func (PySem.W.ksFn name qual (defArgs st) (defBody st) (defScope st) .none kV doc pm an (.ref cda) ct cc), osl⟩) (cd : PySem.W.codeIn K (.ref cda) qual = true) :
    InitF K fI cc cda fs (PySem.W.ksFn name qual (defArgs st) (defBody st) (defScope st) .none kV doc pm an (.ref cda) ct cc) := by
  obtain ⟨m, j, p0, p1, p2, p3, p4, p5, qs, e, hl, he⟩ := T.form
  refine ⟨⟨_, _, _, lk⟩, cd, ⟨name, qual, defArgs st, m, j, p0, p1, p2, p3, p4, p5, qs, defScope st, .none, kV, doc, pm, an, ct, by rw [e], hl, T.k1, T.k2, T.k3, T.k4, T.k5, T.k6, T.k7, T.k8, T.k9, he⟩, fun s v us hu => .of_eq (T.bind _ _ _ _ _ _ _ _ _ v us hu), T.dist⟩
def cStr : CF := fun xs ms P => match xs with
  | [.str x] => P (.str x) ms
  | [d] => Shw d ∧ P (.str (repS d)) ms
  | _ => False
def dChain (f f' : OF) (da db dc : DE) : DE := fun ds ms P => da ds ms fun x m1 => db ds m1 fun y m2 => f x y m2 fun z m3 => match z with
  | .bl k => if k = true then dc ds m3 fun w m4 => f' y w m4 P else P (.bl false) m3
  | _ => False
section
variable {X : Cx} {a b c : Expr} {da db dc : DE} {op op' : CmpOp} {r r' : R2} {f f' : OF} {pos : Pos}
theorem lift_chain {K : PySem.W.Frag} (hf : OpD K r f) (hf' : OpD K r' f') : ∀ σ H Q, lift K (dChain f f' da db dc) σ H Q → tChain r r' (lift K da) (lift K db) (lift K dc) σ H Q := fun σ H Q ⟨F, ds, ms, P, R, S, h1, h2⟩ =>
  ⟨F, ds, ms, _, R, S, h1, fun dx m1 x F1 H1 p1 R1 s1 r1 => ⟨F1, ds, m1, _, R1, S.mono s1.sub, p1, fun dy m2 y F2 H2 p2 R2 s2 r2 => hf F2 H2 m2 x y dx dy _ _ R2 (r1.mono s2.sub) r2 p2 fun dz m3 z F3 H3 p3 R3 s3 r3 => by
    cases r3 with
    | bl k =>
      refine ⟨k, rfl, ?_⟩
      cases k with
      | true =>
        have s13 := (s1.trans s2).trans s3
        simp only [if_true] at p3 ⊢
        exact ⟨F3, ds, m3, _, R3, S.mono s13.sub, p3, fun dw m4 w F4 H4 p4 R4 s4 r4 => hf' F4 H4 m4 y w dy dw _ _ R4 ((r2.mono s3.sub).mono s4.sub) r4 p4 fun d m5 v F5 H5 p5 R5 s5 r5 => h2 d m5 v F5 H5 p5 R5 ((s13.trans s4).trans s5) r5⟩
      | false =>
        simp only [if_neg Bool.false_ne_true] at p3 ⊢
        exact h2 _ m3 _ F3 H3 p3 R3 ((s1.trans s2).trans s3) (.bl false)
    | _ => exact p3.elim⟩⟩
theorem pd_chain (ho : OpR X (compareOp op) r) (hf : OpD X.K r f) (ho' : OpR X (compareOp op') r') (hf' : OpD X.K r' f') (ha : PD X a da) (hb : PD X b db) (hc : PD X c dc)
    (hm : lastMarks [op, op'] [b, c] = false := by with_unfolding_all rfl) : PD X (.Compare a [op, op'] [b, c] pos) (dChain f f' da db dc) := peImp (pe_chain ho ho' ha hb hc hm) (lift_chain hf hf')
theorem pdt_chain (ho : OpR X (compareOp op) r) (hf : OpD X.K r f) (ho' : OpR X (compareOp op') r') (hf' : OpD X.K r' f') (ha : PD X a da) (hb : PD X b db) (hc : PD X c dc)
    (hm : lastMarks [op, op'] [b, c] = false := by with_unfolding_all rfl) : PDT X (.Compare a [op, op'] [b, c] pos) (dTest (dChain f f' da db dc)) := ptImp (pt_chain ho ho' ha hb hc hm) fun σ H Q ⟨F, ds, ms, P, R, S, h1, h2⟩ =>
  lift_chain hf hf' σ H _ ⟨F, ds, ms, _, R, S, h1, fun d m v F1 H1 p1 R1 s1 r1 => by
    cases r1 with
    | bl k => exact ⟨k, rfl, h2 k m F1 H1 p1 R1 s1⟩
    | _ => exact p1.elim⟩
end
end DL
namespace DL
open PySem PySem.Spec PyProof.Rows L2
def StG (t : DTS) (E : EN) (ds : DS) (ms : MS) : Prop := t E ds ms
def ExG (de : DE) (ds : DS) (ms : MS) (P : D → MS → Prop) : Prop := de ds ms P
def TsG (dt : DT) (ds : DS) (ms : MS) (P : Bool → MS → Prop) : Prop := dt ds ms P
def ArG (da : DA) (ds : DS) (ms : MS) (P : List D → MS → Prop) : Prop := da ds ms P
def ItG (di : DI) (ds : DS) (ms : MS) (P : List D → MS → Prop) : Prop := di ds ms P
def OgG (o : DO) (ds : DS) (ms : MS) (P : Option Int → MS → Prop) : Prop := o ds ms P
def TgG (g : DG) (d : D) (ds : DS) (P : DS → Prop) : Prop := g d ds P
def TgsG (g : DGs) (d : List D) (ds : DS) (P : DS → Prop) : Prop := g d ds P
def OpG (f : OF) (x y : D) (ms : MS) (P : D → MS → Prop) : Prop := f x y ms P
def CbG (f : CF) (xs : List D) (ms : MS) (P : D → MS → Prop) : Prop := f xs ms P
def SlG (x : D) (l u : Option Int) (ms : MS) (P : D → MS → Prop) : Prop := fSl x l u ms P
def NxG (E : EN) (ds : DS) (ms : MS) : Prop := E.nx ds ms
def RtG (E : EN) (d : D) (ms : MS) : Prop := E.rt d ms
def BkG (E : EN) (ds : DS) (ms : MS) : Prop := E.bk ds ms
def CtG (E : EN) (ds : DS) (ms : MS) : Prop := E.ct ds ms
def XcG (E : EN) (c : Str) (ns : List Str) (xs : List D) (ds : DS) (ms : MS) : Prop := E.ex c ns xs ds ms
/-- ends with another next, as a loop's body has them, with other exceptions -/
def EN.wn (E : EN) (f : DS → MS → Prop) : EN := { E with nx := f }
def EN.lp (E : EN) (f : DS → MS → Prop) : EN := { E with nx := f, ct := f, bk := E.nx }
def EN.wx (E : EN) (f : Str → List Str → List D → DS → MS → Prop) : EN := { E with ex := f }
section
variable {E : EN} {f : DS → MS → Prop} {fx : Str → List Str → List D → DS → MS → Prop} {ds : DS} {ms : MS} {d : D} {c : Str} {ns : List Str} {xs : List D} {un ub uc : DS → MS → Prop} {ur : D → MS → Prop} {ux : Str → List Str → List D → DS → MS → Prop}
theorem n_wn (h : f ds ms) : NxG (EN.wn E f) ds ms := h
theorem n_lp (h : f ds ms) : NxG (EN.lp E f) ds ms := h
theorem n_wx (h : NxG E ds ms) : NxG (EN.wx E fx) ds ms := h
theorem n_mk (h : un ds ms) : NxG ⟨un, ur, ub, uc, ux⟩ ds ms := h
theorem t_wn (h : RtG E d ms) : RtG (EN.wn E f) d ms := h
theorem t_lp (h : RtG E d ms) : RtG (EN.lp E f) d ms := h
theorem t_wx (h : RtG E d ms) : RtG (EN.wx E fx) d ms := h
theorem t_mk (h : ur d ms) : RtG ⟨un, ur, ub, uc, ux⟩ d ms := h
theorem b_wn (h : BkG E ds ms) : BkG (EN.wn E f) ds ms := h
theorem b_lp (h : NxG E ds ms) : BkG (EN.lp E f) ds ms := h
theorem b_wx (h : BkG E ds ms) : BkG (EN.wx E fx) ds ms := h
theorem c_wn (h : CtG E ds ms) : CtG (EN.wn E f) ds ms := h
theorem c_lp (h : f ds ms) : CtG (EN.lp E f) ds ms := h
theorem c_wx (h : CtG E ds ms) : CtG (EN.wx E fx) ds ms := h
theorem x_wn (h : XcG E c ns xs ds ms) : XcG (EN.wn E f) c ns xs ds ms := h
theorem x_lp (h : XcG E c ns xs ds ms) : XcG (EN.lp E f) c ns xs ds ms := h
theorem x_wx (h : fx c ns xs ds ms) : XcG (EN.wx E fx) c ns xs ds ms := h
theorem x_mk (h : ux c ns xs ds ms) : XcG ⟨un, ur, ub, uc, ux⟩ c ns xs ds ms := h
end
section
variable {t : DTS} {E : EN} {ds : DS} {ms : MS} {de : DE} {P : D → MS → Prop} {dt : DT} {PT : Bool → MS → Prop} {da : DA} {PA : List D → MS → Prop} {di : DI} {o : DO} {PO : Option Int → MS → Prop} {g : DG} {gs : DGs} {d x y : D} {xs : List D} {PS : DS → Prop} {f : OF} {c : CF} {l u : Option Int}
theorem StG.out (h : t E ds ms) : StG t E ds ms := h
theorem ExG.out (h : de ds ms P) : ExG de ds ms P := h
theorem TsG.out (h : dt ds ms PT) : TsG dt ds ms PT := h
theorem ArG.out (h : da ds ms PA) : ArG da ds ms PA := h
theorem ItG.out (h : di ds ms PA) : ItG di ds ms PA := h
theorem OgG.out (h : o ds ms PO) : OgG o ds ms PO := h
theorem TgG.out (h : g d ds PS) : TgG g d ds PS := h
theorem TgsG.out (h : gs xs ds PS) : TgsG gs xs ds PS := h
theorem OpG.out (h : f x y ms P) : OpG f x y ms P := h
theorem CbG.out (h : c xs ms P) : CbG c xs ms P := h
theorem SlG.out (h : fSl x l u ms P) : SlG x l u ms P := h
end
section
variable {E : EN} {ds ds' : DS} {ms m : MS} {P : D → MS → Prop} {A B : Prop} {t u tb : DTS} {de da db dc : DE} {dt du : DT} {g : DG} {gs : DGs} {aa ak : DA} {di : DI} {d x y : D} {xs ys zs : List D} {n k i j : Nat} {b : Bool} {PT : Bool → MS → Prop} {PA : List D → MS → Prop} {PS : DS → Prop} {PO : Option Int → MS → Prop}
theorem w_seq (h : StG t (EN.wn E (StG u E)) ds ms) : dSeq t u E ds ms := h
theorem w_next (h : NxG E ds ms) : dNext E ds ms := h
theorem w_break (h : BkG E ds ms) : dBreak E ds ms := h
theorem w_cont (h : CtG E ds ms) : dCont E ds ms := h
theorem w_ret (h : ExG de ds ms (RtG E)) : dRet de E ds ms := h
theorem w_retN (h : RtG E .non ms) : dRetN E ds ms := h
theorem w_drop (h : ExG de ds ms fun _ m => NxG E ds m) : dDrop de E ds ms := h
theorem w_ifS (h : TsG dt ds ms fun b m => if b = true then StG t E ds m else StG u E ds m) : dIfS dt t u E ds ms := h
theorem w_asg (h : ExG de ds ms fun d m => TgG g d ds fun ds1 => NxG E ds1 m) : dAsg de g E ds ms := h
def mPar (i j : Nat) (E : EN) (ds : DS) (xs : List D) (m : MS) : Prop := match xs with
  | [x, y] => E.nx (setSlot (setSlot ds i x) j y) m
  | _ => False
theorem w_par (h : ArG aa ds ms fun xs m => mPar i j E ds xs m) : dPar i j aa E ds ms := h
theorem w_mPar (e : setSlot (setSlot ds i x) j y = ds') (h : NxG E ds' m) : mPar i j E ds [x, y] m := by subst e; exact h
theorem w_for (h : ItG di ds ms fun xs m => loopD g tb E xs ds m) : dFor di g tb E ds ms := h
theorem w_raise {c : Str} (h : XcG E c [] [] ds ms) : dRaise c E ds ms := h
theorem w_raiseI {c : Str} {fs : List Str} (h : ArG aa ds ms fun xs m => xs.length = fs.length ∧ XcG E c fs xs ds m) : dRaiseI c fs aa E ds ms := h
theorem w_exprZ {dz : ZD → DE} (h : ExG (dz (XcG E)) ds ms fun _ m => NxG E ds m) : dExprZ dz E ds ms := h
theorem w_retZ {dz : ZD → DE} (h : ExG (dz (XcG E)) ds ms (RtG E)) : dRetZ dz E ds ms := h
theorem w_asgZ {dz : ZD → DE} (h : ExG (dz (XcG E)) ds ms fun d m => TgG g d ds fun ds1 => NxG E ds1 m) : dAsgZ dz g E ds ms := h
def mTry (ml : List (Str × Bool)) (i j : Nat) (E : EN) (c : Str) (ns : List Str) (xs : List D) (ds : DS) (ms : MS) : Prop := match ml.lookup c with
  | some true => E.nx ((setSlot ds j (.exc c ns xs)).set i none) ms
  | some false => E.ex c ns xs ds ms
  | none => False
theorem w_try {ml : List (Str × Bool)} (h : StG tb (EN.wx E (mTry ml i j E)) ds ms) : dTry ml i j tb E ds ms := h
theorem w_try0 {ml : List (Str × Bool)} (h : StG (dTry ml i j tb) (EN.wx E fun _ _ _ _ _ => False) ds ms) : dTry0 ml i j tb E ds ms := h
theorem w_mTry {ml : List (Str × Bool)} {c : Str} {ns : List Str} (e : ml.lookup c = some true) (e2 : (setSlot ds j (.exc c ns xs)).set i none = ds') (h : NxG E ds' ms) : mTry ml i j E c ns xs ds ms := by
  unfold mTry; rw [e]; subst e2; exact h
theorem w_mTryF {ml : List (Str × Bool)} {c : Str} {ns : List Str} (e : ml.lookup c = some false) (h : XcG E c ns xs ds ms) : mTry ml i j E c ns xs ds ms := by
  unfold mTry; rw [e]; exact h
theorem w_name (e : setSlot ds i d = ds') (h : PS ds') : sName i d ds PS := by subst e; exact h
theorem w_stup (e : xs.length = n) (h : TgsG gs xs ds PS) : sTup n gs (.tup xs) ds PS := ⟨e, h⟩
theorem w_scons (h : TgG g x ds fun ds1 => TgsG gs ys ds1 PS) : sCons g gs (x :: ys) ds PS := h
theorem w_snil (h : PS ds) : sNil [] ds PS := h
theorem w_c (h : P d ms) : dC d ds ms P := h
theorem w_var (e : slot ds i = some d) (h : P d ms) : dVar i ds ms P := by unfold dVar; rw [e]; exact h
theorem w_op {f : OF} (h : ExG da ds ms fun x m => ExG db ds m fun y m2 => OpG f x y m2 P) : dOp f da db ds ms P := h
theorem w_tup (h : ArG aa ds ms fun xs m => xs.length ≤ sizeLine ∧ P (.tup xs) m) : dTup aa ds ms P := h
theorem w_lst (h : ArG aa ds ms fun xs m => xs.length ≤ sizeLine ∧ P (.lst xs) m) : dLst aa ds ms P := h
theorem w_lstM (h : ArG aa ds ms fun xs m => xs.length ≤ sizeLine ∧ ∀ p, (∀ q ∈ m, q.1 ≠ p) → P (.opq (.ref p)) ((p, xs) :: m)) : dLstM aa ds ms P := h
theorem w_size (e : n ≤ sizeLine) (h : A) : n ≤ sizeLine ∧ A := ⟨e, h⟩
theorem w_sizeL (e : n < sizeLine) (h : A) : n < sizeLine ∧ A := ⟨e, h⟩
theorem w_anil (h : PA [] ms) : aNil ds ms PA := h
theorem w_acons (h : ExG de ds ms fun x m1 => ArG aa ds m1 fun xs m2 => PA (x :: xs) m2) : aCons de aa ds ms PA := h
theorem w_edic (h : P .edic ms) : dEdic ds ms P := h
def mNeg (d : D) (m : MS) (P : D → MS → Prop) : Prop := match d with
  | .int i => P (.int (-i)) m
  | _ => False
theorem w_neg (h : ExG de ds ms fun x m => mNeg x m P) : dNeg de ds ms P := h
theorem w_mNeg {i : Int} (h : P (.int (-i)) m) : mNeg (.int i) m P := h
def mNot (d : D) (m : MS) (P : D → MS → Prop) : Prop := match d with
  | .bl b => P (.bl (!b)) m
  | _ => False
theorem w_notV (h : ExG de ds ms fun x m => mNot x m P) : dNotV de ds ms P := h
theorem w_mNotT (e : b = true) (h : P (.bl false) m) : mNot (.bl b) m P := by subst e; exact h
theorem w_mNotF (e : b = false) (h : P (.bl true) m) : mNot (.bl b) m P := by subst e; exact h
theorem w_mNot (h : P (.bl (!b)) m) : mNot (.bl b) m P := h
def mAnd (db : DE) (ds : DS) (d : D) (m : MS) (P : D → MS → Prop) : Prop := match d with
  | .bl b => if b = true then db ds m P else P (.bl false) m
  | _ => False
theorem w_andV (h : ExG da ds ms fun x m => mAnd db ds x m P) : dAndV da db ds ms P := h
theorem w_mAnd (h : if b = true then ExG db ds m P else P (.bl false) m) : mAnd db ds (.bl b) m P := h
def mOr (db : DE) (ds : DS) (d : D) (m : MS) (P : D → MS → Prop) : Prop := match d with
  | .bl b => if b = true then P (.bl true) m else db ds m P
  | _ => False
theorem w_orV (h : ExG da ds ms fun x m => mOr db ds x m P) : dOrV da db ds ms P := h
theorem w_mOr (h : if b = true then P (.bl true) m else ExG db ds m P) : mOr db ds (.bl b) m P := h
theorem w_if (h : TsG dt ds ms fun b m => if b = true then ExG da ds m P else ExG db ds m P) : dIf dt da db ds ms P := h
theorem w_iteT (e : b = true) (h : A) : if b = true then A else B := by rw [if_pos e]; exact h
theorem w_iteF (e : b = false) (h : B) : if b = true then A else B := by rw [if_neg (by rw [e]; decide)]; exact h
def mTest (d : D) (m : MS) (P : Bool → MS → Prop) : Prop := match d with
  | .bl b => P b m
  | _ => False
theorem w_test (h : ExG da ds ms fun x m => mTest x m PT) : dTest da ds ms PT := h
theorem w_mTest (h : PT b m) : mTest (.bl b) m PT := h
theorem w_yes (h : PT true ms) : dYes ds ms PT := h
theorem w_not (h : TsG dt ds ms fun b m => PT (!b) m) : dNot dt ds ms PT := h
theorem w_and (h : TsG dt ds ms fun b m => if b = true then TsG du ds m PT else PT false m) : dAnd dt du ds ms PT := h
theorem w_or (h : TsG dt ds ms fun b m => if b = true then PT true m else TsG du ds m PT) : dOr dt du ds ms PT := h
theorem w_tru (h : ExG da ds ms fun x m => truD x m fun b => PT b m) : dTru da ds ms PT := h
def mCall (n k : Nat) (is : List Nat) (fs : FS) (xs zs : List D) (m : MS) (P : D → MS → Prop) : Prop := xs.length = n ∧ zs.length = k ∧ fs (pick is (xs ++ zs)) m P
theorem w_call {is : List Nat} {fs : FS} (h : ArG aa ds ms fun xs m1 => ArG ak ds m1 fun zs m2 => mCall n k is fs xs zs m2 P) : dCall n k is fs aa ak ds ms P := h
theorem w_mCall {is : List Nat} {fs : FS} (e1 : xs.length = n) (e2 : zs.length = k) (e : pick is (xs ++ zs) = ys) (h : fs ys m P) : mCall n k is fs xs zs m P := ⟨e1, e2, by rw [e]; exact h⟩
def mCallZ (n k : Nat) (is : List Nat) (fx : FX) (Z : ZD) (ds : DS) (xs zs : List D) (m : MS) (P : D → MS → Prop) : Prop := xs.length = n ∧ zs.length = k ∧ fx (pick is (xs ++ zs)) m P fun c ns ys m' => Z c ns ys ds m'
theorem w_callZ {is : List Nat} {fx : FX} {Z : ZD} (h : ArG aa ds ms fun xs m1 => ArG ak ds m1 fun zs m2 => mCallZ n k is fx Z ds xs zs m2 P) : dCallZ n k is fx aa ak Z ds ms P := h
theorem w_mCallZ {is : List Nat} {fx : FX} {Z : ZD} (e1 : xs.length = n) (e2 : zs.length = k) (e : pick is (xs ++ zs) = ys) (h : fx ys m P fun c ns ys m' => Z c ns ys ds m') : mCallZ n k is fx Z ds xs zs m P := ⟨e1, e2, by rw [e]; exact h⟩
theorem w_cb {f : CF} (h : ArG aa ds ms fun xs m => CbG f xs m P) : dCB f aa ds ms P := h
section
variable {i j : Int} {a c : List D} {z w : Str} {lo hi : Option Int} {p : Addr}
theorem w_add_ii (h : P (.int (i + j)) ms) : fAdd (.int i) (.int j) ms P := h
theorem w_add_ss (h : z.length + w.length ≤ sizeLine ∧ P (.str (z ++ w)) ms) : fAdd (.str z) (.str w) ms P := h
theorem w_add_ll (h : a.length + c.length ≤ sizeLine ∧ P (.lst (a ++ c)) ms) : fAdd (.lst a) (.lst c) ms P := h
theorem w_add_ol (e : look ms p = some a) (h : a.length + c.length ≤ sizeLine ∧ P (.lst (a ++ c)) ms) : fAdd (.opq (.ref p)) (.lst c) ms P := by unfold fAdd; simp only [e]; exact h
theorem w_add_tt (h : a.length + c.length ≤ sizeLine ∧ P (.tup (a ++ c)) ms) : fAdd (.tup a) (.tup c) ms P := h
theorem w_sub (h : P (.int (i - j)) ms) : fSub (.int i) (.int j) ms P := ⟨trivial, h⟩
theorem w_mul (h : CMulD i j ∧ P (.int (i * j)) ms) : fMul (.int i) (.int j) ms P := h
theorem w_mul_l (h : (-(2 ^ 63) ≤ i ∧ i < 2 ^ 63 ∧ a.length * i.toNat ≤ sizeLine) ∧ P (.lst (List.replicate i.toNat a).flatten) ms) : fMul (.lst a) (.int i) ms P := h
theorem w_div (h : CDivA i j ∧ P (.int (i.fdiv j)) ms) : fDiv (.int i) (.int j) ms P := h
theorem w_mod (h : j ≠ 0 ∧ P (.int (i.fmod j)) ms) : fMod (.int i) (.int j) ms P := h
theorem w_pow (e : 0 ≤ j ∧ j ≤ 1000000) {r : Int} (er : (10 : Int) ^ j.toNat = r) (h : P (.int r) ms) : fPow (.int 10) (.int j) ms P := ⟨⟨e.1, e.2, by decide⟩, by rw [← er] at h; exact h⟩
theorem w_lt (h : P (.bl (decide (i < j))) ms) : fLt (.int i) (.int j) ms P := ⟨trivial, h⟩
theorem w_le (h : P (.bl (decide (i ≤ j))) ms) : fLe (.int i) (.int j) ms P := ⟨trivial, h⟩
theorem w_gt (h : P (.bl (decide (j < i))) ms) : fGt (.int i) (.int j) ms P := ⟨trivial, h⟩
theorem w_ge (h : P (.bl (decide (j ≤ i))) ms) : fGe (.int i) (.int j) ms P := ⟨trivial, h⟩
theorem w_eq_ii (h : P (.bl (i == j)) ms) : fEq (.int i) (.int j) ms P := h
theorem w_eq_ss (h : P (.bl (z == w)) ms) : fEq (.str z) (.str w) ms P := h
theorem w_eq_l0 (h : P (.bl a.isEmpty) ms) : fEq (.lst a) (.lst []) ms P := h
theorem w_eq_bb {b c : Bool} (h : P (.bl (b == c)) ms) : fEq (.bl b) (.bl c) ms P := ⟨⟨_, rfl, rfl⟩, ⟨_, rfl, rfl⟩, by
  have e : eqD (.bl b) (.bl c) = (b == c) := by cases b <;> cases c <;> rfl
  rw [e]; exact h⟩
theorem w_eq_lc (h : ShD (.lst a) ∧ ShD (.lst (d :: c)) ∧ P (.bl (eqD (.lst a) (.lst (d :: c)))) ms) : fEq (.lst a) (.lst (d :: c)) ms P := h
theorem w_eq_tt (h : ShD (.tup a) ∧ ShD (.tup c) ∧ P (.bl (eqD (.tup a) (.tup c))) ms) : fEq (.tup a) (.tup c) ms P := h
theorem w_ne_ii (h : P (.bl (!(i == j))) ms) : fNe (.int i) (.int j) ms P := h
theorem w_ne_ss (h : P (.bl (!(z == w))) ms) : fNe (.str z) (.str w) ms P := h
theorem w_ne_l0 (h : P (.bl (!a.isEmpty)) ms) : fNe (.lst a) (.lst []) ms P := h
theorem w_ne_bb {b c : Bool} (h : P (.bl (!(b == c))) ms) : fNe (.bl b) (.bl c) ms P := ⟨⟨_, rfl, rfl⟩, ⟨_, rfl, rfl⟩, by
  have e : eqD (.bl b) (.bl c) = (b == c) := by cases b <;> cases c <;> rfl
  rw [e]; exact h⟩
theorem w_ne_lc (h : ShD (.lst a) ∧ ShD (.lst (d :: c)) ∧ P (.bl (!eqD (.lst a) (.lst (d :: c)))) ms) : fNe (.lst a) (.lst (d :: c)) ms P := h
theorem w_ne_tt (h : ShD (.tup a) ∧ ShD (.tup c) ∧ P (.bl (!eqD (.tup a) (.tup c))) ms) : fNe (.tup a) (.tup c) ms P := h
theorem w_in_l (h : InOk x a false ms P) : fIn x (.lst a) ms P := h
theorem w_in_t (h : InOk x a false ms P) : fIn x (.tup a) ms P := h
theorem w_notIn_l (h : InOk x a true ms P) : fNotIn x (.lst a) ms P := h
theorem w_notIn_t (h : InOk x a true ms P) : fNotIn x (.tup a) ms P := h
theorem w_ix_t (e : atI a i = some d) (h : P d ms) : fIx (.tup a) (.int i) ms P := by unfold fIx; simp only [e]; exact h
theorem w_ix_l (e : atI a i = some d) (h : P d ms) : fIx (.lst a) (.int i) ms P := by unfold fIx; simp only [asL, e]; exact h
theorem w_ix_f (e : atI a i = some d) (h : P d ms) : fIx (.fro a) (.int i) ms P := by unfold fIx; simp only [asL, e]; exact h
theorem w_ix_o (e0 : look ms p = some a) (e : atI a i = some d) (h : P d ms) : fIx (.opq (.ref p)) (.int i) ms P := by unfold fIx; simp only [asL, e0, e]; exact h
theorem w_ix_s {c : Nat} (e0 : z.length ≤ sizeLine) (e : atI z.cps.toList i = some c) (h : P (.str ⟨#[c]⟩) ms) : fIx (.str z) (.int i) ms P := by unfold fIx; simp only [e]; exact ⟨e0, h⟩
theorem w_at0 {α : Type} (x : α) (r : List α) : atI (x :: r) 0 = some x := by simp [atI, ixN]
theorem w_at1 {α : Type} (x y : α) (r : List α) : atI (x :: y :: r) 1 = some y := by
  have h : (1 : Int) < (r.length : Int) + 1 + 1 := by omega
  simp [atI, ixN, h]
theorem w_at2 {α : Type} (x y z : α) (r : List α) : atI (x :: y :: z :: r) 2 = some z := by
  have h : (2 : Int) < (r.length : Int) + 1 + 1 + 1 := by omega
  simp [atI, ixN, h]
theorem w_at3 {α : Type} (x y z u : α) (r : List α) : atI (x :: y :: z :: u :: r) 3 = some u := by
  have h : (3 : Int) < (r.length : Int) + 1 + 1 + 1 + 1 := by omega
  simp [atI, ixN, h]
theorem w_sl {ol oh : DO} (h : ExG de ds ms fun x m1 => OgG ol ds m1 fun l m2 => OgG oh ds m2 fun u m3 => SlG x l u m3 P) : dSl de ol oh ds ms P := h
theorem w_sl_l (h : P (.lst (cutL a lo hi)) ms) : fSl (.lst a) lo hi ms P := h
theorem w_sl_f (h : P (.lst (cutL a lo hi)) ms) : fSl (.fro a) lo hi ms P := h
theorem w_sl_t (h : P (.tup (cutL a lo hi)) ms) : fSl (.tup a) lo hi ms P := h
theorem w_sl_s (h : z.length ≤ sizeLine ∧ P (.str (cutS z lo hi)) ms) : fSl (.str z) lo hi ms P := h
theorem w_onone (h : PO none ms) : oNone ds ms PO := h
def mSome (d : D) (m : MS) (P : Option Int → MS → Prop) : Prop := match d with
  | .int i => P (some i) m
  | _ => False
theorem w_osome (h : ExG de ds ms fun d m => mSome d m PO) : oSome de ds ms PO := h
theorem w_mSome (h : PO (some i) m) : mSome (.int i) m PO := h
theorem w_len_l (h : P (.int a.length) ms) : cLen [.lst a] ms P := h
theorem w_len_f (h : P (.int a.length) ms) : cLen [.fro a] ms P := h
theorem w_len_t (h : P (.int a.length) ms) : cLen [.tup a] ms P := h
theorem w_len_s (h : z.length ≤ sizeLine ∧ P (.int z.length) ms) : cLen [.str z] ms P := h
theorem w_len_o (e : look ms p = some a) (h : P (.int a.length) ms) : cLen [.opq (.ref p)] ms P := by unfold cLen; simp only [asL, e]; exact h
theorem w_list_l (h : P (.lst a) ms) : cList [.lst a] ms P := h
theorem w_list_f (h : P (.lst a) ms) : cList [.fro a] ms P := h
theorem w_list_t (h : P (.lst a) ms) : cList [.tup a] ms P := h
theorem w_tuple_l (h : P (.tup a) ms) : cTuple [.lst a] ms P := h
theorem w_tuple_t (h : P (.tup a) ms) : cTuple [.tup a] ms P := h
theorem w_str_s (h : P (.str z) ms) : cStr [.str z] ms P := h
theorem w_str_l (h : Shw (.lst a) ∧ P (.str (repS (.lst a))) ms) : cStr [.lst a] ms P := h
theorem w_str_i (h : Shw (.int i) ∧ P (.str (repS (.int i))) ms) : cStr [.int i] ms P := h
theorem w_repr (h : Shw d ∧ P (.str (repS d)) ms) : cRepr [d] ms P := h
theorem w_abs (h : P (.int (if i < 0 then -i else i)) ms) : cAbs [.int i] ms P := h
theorem w_max2 (h : P (.int (if j > i then j else i)) ms) : cMax2 [.int i, .int j] ms P := h
theorem w_min2 (h : P (.int (if j < i then j else i)) ms) : cMin2 [.int i, .int j] ms P := h
theorem w_int_i (h : P (.int i) ms) : cInt1 [.int i] ms P := h
theorem w_int_b (h : P (.int (if b then 1 else 0)) ms) : cInt1 [.bl b] ms P := h
theorem w_all {bs : List Bool} (e : blsOf a = some bs) (h : P (.bl (bs.all id)) ms) : cAll [.lst a] ms P := by unfold cAll; simp only [e]; exact h
theorem w_any {bs : List Bool} (e : blsOf a = some bs) (h : P (.bl (bs.any id)) ms) : cAny [.lst a] ms P := by unfold cAny; simp only [e]; exact h
theorem w_sum {ns : List Int} (e : intsOf a = some ns) (h : P (.int ns.sum) ms) : cSum [.lst a] ms P := by unfold cSum; simp only [e]; exact h
def mSeq (d : D) (m : MS) (P : List D → MS → Prop) : Prop := match d with
  | .lst xs => P xs m
  | .fro xs => P xs m
  | _ => False
theorem w_iseq (h : ExG de ds ms fun d m => mSeq d m PA) : iSeq de ds ms PA := h
theorem w_mSeq (h : PA a m) : mSeq (.lst a) m PA := h
theorem w_mSeqF (h : PA a m) : mSeq (.fro a) m PA := h
def mTupI (d : D) (m : MS) (P : List D → MS → Prop) : Prop := match d with
  | .tup xs => P xs m
  | _ => False
theorem w_itup (h : ExG de ds ms fun d m => mTupI d m PA) : iTupD de ds ms PA := h
theorem w_mTupI (h : PA a m) : mTupI (.tup a) m PA := h
def mRng (xs : List D) (m : MS) (P : List D → MS → Prop) : Prop := match xs with
  | [.int j] => (-(2 ^ 62) ≤ j ∧ j < 2 ^ 62) ∧ P (rng 0 j.toNat) m
  | _ => False
theorem w_irng1 (h : ArG aa ds ms fun xs m => mRng xs m PA) : iRange1 aa ds ms PA := h
theorem w_mRng (e : -(2 ^ 62) ≤ j ∧ j < 2 ^ 62) (h : PA (rng 0 j.toNat) m) : mRng [.int j] m PA := ⟨e, h⟩
def mZip (xs : List D) (m : MS) (P : List D → MS → Prop) : Prop := match xs with
  | [.lst a, .lst b] => P (zipD a b) m
  | _ => False
theorem w_izip (h : ArG aa ds ms fun xs m => mZip xs m PA) : iZipD aa ds ms PA := h
theorem w_mZip (h : PA (zipD a c) m) : mZip [.lst a, .lst c] m PA := h
def mEnum (xs : List D) (m : MS) (P : List D → MS → Prop) : Prop := match xs with
  | [.lst a] => P (enumD a) m
  | _ => False
theorem w_ienum (h : ArG aa ds ms fun xs m => mEnum xs m PA) : iEnumD aa ds ms PA := h
theorem w_mEnum (h : PA (enumD a) m) : mEnum [.lst a] m PA := h
theorem w_lc {tt : DT} {te : DE} {vs : List Nat} (e : ∀ d, wipeD d vs = wipeD d vs) (h : ItG di ds ms fun xs m => compD g tt te (wipeD ds vs) xs [] m fun ys m' => P (.lst ys) m') : dLc di g tt te vs ds ms P := h
def mIsi (T : Ty) (d : D) (m : MS) (P : D → MS → Prop) : Prop := match tyD d with
  | some a => P (.bl (subT a T)) m
  | none => False
theorem w_isi {T : Ty} (h : ExG de ds ms fun d m => mIsi T d m P) : dIsi T de ds ms P := h
theorem w_mIsiT {T a : Ty} (e : tyD d = some a) (e2 : subT a T = true) (h : P (.bl true) m) : mIsi T d m P := by unfold mIsi; simp only [e, e2]; exact h
theorem w_mIsiF {T a : Ty} (e : tyD d = some a) (e2 : subT a T = false) (h : P (.bl false) m) : mIsi T d m P := by unfold mIsi; simp only [e, e2]; exact h
def mIsE (ml : List (Str × Bool)) (d : D) (m : MS) (P : D → MS → Prop) : Prop := match d with
  | .exc c _ _ => (match ml.lookup c with
    | some b => P (.bl b) m
    | none => False)
  | _ => False
theorem w_isE {ml : List (Str × Bool)} (h : ExG de ds ms fun d m => mIsE ml d m P) : dIsE ml de ds ms P := h
theorem w_mIsE {ml : List (Str × Bool)} {c : Str} {ns : List Str} {b : Bool} (e : ml.lookup c = some b) (h : P (.bl b) m) : mIsE ml (.exc c ns xs) m P := by unfold mIsE; simp only [e]; exact h
def mFld (ml : List (Str × Bool)) (f : Str) (d : D) (m : MS) (P : D → MS → Prop) : Prop := match d with
  | .exc c ns xs => (ml.lookup c).isSome = true ∧ ∃ y, (ns.zip xs).lookup f = some y ∧ P y m
  | _ => False
theorem w_fld {ml : List (Str × Bool)} {f : Str} (h : ExG de ds ms fun d m => mFld ml f d m P) : dFld ml f de ds ms P := h
theorem w_mFld {ml : List (Str × Bool)} {f c : Str} {ns : List Str} {b : Bool} (e : ml.lookup c = some b) (e2 : (ns.zip xs).lookup f = some y) (h : P y m) : mFld ml f (.exc c ns xs) m P := by unfold mFld; simp only [e]; exact ⟨rfl, y, e2, h⟩
def mApp (aa : DA) (ds : DS) (d : D) (m : MS) (P : D → MS → Prop) : Prop := match d with
  | .opq (.ref p) => (∃ xs0, look m p = some xs0) ∧ aa ds m fun ys m2 => (match ys with
    | [y] => (match look m2 p with
      | some xs => xs.length < sizeLine ∧ P .non (put m2 p (xs ++ [y]))
      | none => False)
    | _ => False)
  | _ => False
def mApp2 (p : Addr) (ys : List D) (m : MS) (P : D → MS → Prop) : Prop := match ys with
  | [y] => (match look m p with
    | some xs => xs.length < sizeLine ∧ P .non (put m p (xs ++ [y]))
    | none => False)
  | _ => False
theorem w_append (h : ExG de ds ms fun d m => mApp aa ds d m P) : dAppend de aa ds ms P := h
theorem w_mApp (e : look m p = some xs) (h : ArG aa ds m fun ys m2 => mApp2 p ys m2 P) : mApp aa ds (.opq (.ref p)) m P := ⟨⟨_, e⟩, h⟩
theorem w_mApp2 {m' : MS} (e : look m p = some xs) (e2 : put m p (xs ++ [y]) = m') (h : xs.length < sizeLine ∧ P .non m') : mApp2 p [y] m P := by unfold mApp2; simp only [e, e2]; exact h
theorem put_new {p : Addr} {xs ys : List D} {m : MS} : put ((p, xs) :: m) p ys = (p, ys) :: m := by unfold put; rw [if_pos rfl]
theorem drp_new {p : Addr} {xs : List D} {m : MS} : drp ((p, xs) :: m) p = m := by unfold drp; rw [if_pos rfl]
def mFrz (d : D) (m : MS) (P : D → MS → Prop) : Prop := match d with
  | .opq (.ref p) => (match look m p with
    | some xs => P (.lst xs) (drp m p)
    | none => False)
  | _ => False
theorem w_frz (h : ExG de ds ms fun d m => mFrz d m P) : dFrz de ds ms P := h
theorem w_mFrz {m' : MS} (e : look m p = some xs) (e2 : drp m p = m') (h : P (.lst xs) m') : mFrz (.opq (.ref p)) m P := by unfold mFrz; simp only [e, e2]; exact h
theorem look_new {p : Addr} {xs : List D} {m : MS} : look ((p, xs) :: m) p = some xs := by unfold look; rw [if_pos rfl]
def mChain (f' : OF) (dc : DE) (ds : DS) (y z : D) (m : MS) (P : D → MS → Prop) : Prop := match z with
  | .bl k => if k = true then dc ds m fun w m4 => f' y w m4 P else P (.bl false) m
  | _ => False
theorem w_chain {f f' : OF} (h : ExG da ds ms fun x m1 => ExG db ds m1 fun y m2 => OpG f x y m2 fun z m3 => mChain f' dc ds y z m3 P) : dChain f f' da db dc ds ms P := h
theorem w_mChain {f' : OF} (h : if b = true then ExG dc ds m fun w m4 => OpG f' y w m4 P else P (.bl false) m) : mChain f' dc ds y (.bl b) m P := h
def mIs (neg : Bool) (x y : D) (m : MS) (P : D → MS → Prop) : Prop := fIsB neg x y m P
theorem w_is (h : mIs false x y ms P) : fIs x y ms P := h
theorem w_notIs (h : mIs true x y ms P) : fNotIs x y ms P := h
theorem w_mIsN {neg z : Bool} (e : nonD x = some z) (h : P (.bl (Bool.xor neg z)) ms) : mIs neg x .non ms P := by unfold mIs fIsB; simp only [e]; exact h
theorem w_mIsB {neg a c : Bool} (h : P (.bl (Bool.xor neg (decide (a = c)))) ms) : mIs neg (.bl a) (.bl c) ms P := h
end
end
section
variable {E : EN} {ds : DS} {ms : MS} {P : D → MS → Prop} {t u : DTS} {de da db : DE} {dt du : DT} {g : DG} {gs : DGs} {aa ak : DA} {di : DI} {d : D} {n k i : Nat} {PT : Bool → MS → Prop} {PS : DS → Prop} {f : OF} {c : CF} {is : List Nat} {fs : FS}
theorem r_nx (h : NxG E ds ms) : E.nx ds ms := h
theorem r_rt (h : RtG E d ms) : E.rt d ms := h
theorem r_seq (h : StG (dSeq t u) E ds ms) : dSeq t u E ds ms := h
theorem r_ret (h : StG (dRet de) E ds ms) : dRet de E ds ms := h
theorem r_ifS (h : StG (dIfS dt t u) E ds ms) : dIfS dt t u E ds ms := h
theorem r_asg (h : StG (dAsg de g) E ds ms) : dAsg de g E ds ms := h
theorem r_drop (h : StG (dDrop de) E ds ms) : dDrop de E ds ms := h
theorem r_for (h : StG (dFor di g t) E ds ms) : dFor di g t E ds ms := h
theorem r_exprZ {dz : ZD → DE} (h : StG (dExprZ dz) E ds ms) : dExprZ dz E ds ms := h
theorem r_name (h : TgG (sName i) d ds PS) : sName i d ds PS := h
theorem r_stup (h : TgG (sTup n gs) d ds PS) : sTup n gs d ds PS := h
theorem r_op (h : ExG (dOp f da db) ds ms P) : dOp f da db ds ms P := h
theorem r_call (h : ExG (dCall n k is fs aa ak) ds ms P) : dCall n k is fs aa ak ds ms P := h
theorem r_cb (h : ExG (dCB c aa) ds ms P) : dCB c aa ds ms P := h
theorem r_var (h : ExG (dVar i) ds ms P) : dVar i ds ms P := h
theorem r_c (h : ExG (dC d) ds ms P) : dC d ds ms P := h
theorem r_tup (h : ExG (dTup aa) ds ms P) : dTup aa ds ms P := h
theorem r_lst (h : ExG (dLst aa) ds ms P) : dLst aa ds ms P := h
theorem r_andV (h : ExG (dAndV da db) ds ms P) : dAndV da db ds ms P := h
theorem r_orV (h : ExG (dOrV da db) ds ms P) : dOrV da db ds ms P := h
theorem r_notV (h : ExG (dNotV da) ds ms P) : dNotV da ds ms P := h
theorem r_if (h : ExG (dIf dt da db) ds ms P) : dIf dt da db ds ms P := h
theorem r_test (h : TsG (dTest da) ds ms PT) : dTest da ds ms PT := h
theorem r_not (h : TsG (dNot dt) ds ms PT) : dNot dt ds ms PT := h
theorem r_and (h : TsG (dAnd dt du) ds ms PT) : dAnd dt du ds ms PT := h
theorem r_or (h : TsG (dOr dt du) ds ms PT) : dOr dt du ds ms PT := h
theorem r_lc {tt : DT} {te : DE} {vs : List Nat} (h : ExG (dLc di g tt te vs) ds ms P) : dLc di g tt te vs ds ms P := h
theorem r_sl {ol oh : DO} (h : ExG (dSl de ol oh) ds ms P) : dSl de ol oh ds ms P := h
theorem r_isi {T : Ty} (h : ExG (dIsi T de) ds ms P) : dIsi T de ds ms P := h
theorem r_chain {f' : OF} {dc : DE} (h : ExG (dChain f f' da db dc) ds ms P) : dChain f f' da db dc ds ms P := h
theorem r_neg (h : ExG (dNeg de) ds ms P) : dNeg de ds ms P := h
end
end DL
namespace DL
open PySem PySem.Spec PyProof.Rows L2
def EN.gone (E : EN) (i : Nat) : EN := { nx := fun ds m => E.nx (ds.set i none) m, rt := E.rt, bk := fun ds m => E.bk (ds.set i none) m, ct := fun ds m => E.ct (ds.set i none) m }
def mTryG (ml : List (Str × Bool)) (i : Nat) (ts : DTS) (E : EN) (c : Str) (ns : List Str) (xs : List D) (ds : DS) (ms : MS) : Prop := match ml.lookup c with
  | some true => ts (EN.gone E i) (setSlot ds i (.exc c ns xs)) ms
  | some false => E.ex c ns xs ds ms
  | none => False
def dTryG (ml : List (Str × Bool)) (i : Nat) (tb ts : DTS) : DTS := fun E ds ms => tb { E with ex := mTryG ml i ts E } ds ms
def dTryG0 (ml : List (Str × Bool)) (i : Nat) (tb ts : DTS) : DTS := fun E ds ms => dTryG ml i tb ts { E with ex := fun _ _ _ _ _ => False } ds ms
section
variable {ml : List (Str × Bool)} {i : Nat} {tb ts : DTS} {E : EN} {ds ds' : DS} {ms : MS} {c : Str} {ns : List Str} {xs : List D} {d : D}
theorem w_tryG (h : StG tb (EN.wx E (mTryG ml i ts E)) ds ms) : dTryG ml i tb ts E ds ms := h
theorem w_tryG0 (h : StG (dTryG ml i tb ts) (EN.wx E fun _ _ _ _ _ => False) ds ms) : dTryG0 ml i tb ts E ds ms := h
theorem w_mTryG (e : ml.lookup c = some true) (e2 : setSlot ds i (.exc c ns xs) = ds') (h : StG ts (EN.gone E i) ds' ms) : mTryG ml i ts E c ns xs ds ms := by
  unfold mTryG; rw [e]; subst e2; exact h
theorem w_mTryGF (e : ml.lookup c = some false) (h : XcG E c ns xs ds ms) : mTryG ml i ts E c ns xs ds ms := by
  unfold mTryG; rw [e]; exact h
theorem n_gone (e : ds.set i none = ds') (h : NxG E ds' ms) : NxG (EN.gone E i) ds ms := by subst e; exact h
theorem t_gone (h : RtG E d ms) : RtG (EN.gone E i) d ms := h
theorem b_gone (e : ds.set i none = ds') (h : BkG E ds' ms) : BkG (EN.gone E i) ds ms := by subst e; exact h
theorem c_gone (e : ds.set i none = ds') (h : CtG E ds' ms) : CtG (EN.gone E i) ds ms := by subst e; exact h
end
structure FunA (K : PySem.W.Frag) (x qual : Str) (st : Stmt) (f : Addr) (fd : FuncData) (dvs : List V) (kws : List (Str × V)) : Prop where
  ex : ∃ (oc : Value) (od : Option Addr) (dV kV doc pm : Value) (an : Option Addr) (cdv ct : Value) (osl : Array (Option Value)),
    fd = PySem.W.fnOf x qual (defArgs st) (defBody st) (defScope st) dV kV doc pm an cdv ct ∧ K.lookup f = some ⟨oc, od, .func fd, osl⟩ ∧ PySem.W.codeIn K cdv qual = true ∧ DflV K dV dvs ∧ KwdV K kV kws
  kp : PySem.W.keepIn K (.ref f) = true
theorem fnXA_of {P : Program} {w : World} {K : PySem.W.Frag} {mg : Str → Option Value} {base : Heap} {k : Nat} {f : Addr} {fd : FuncData} {x qual : Str} {st : Stmt} {N ps : List Str} {fx : FX} {t : DTS}
    {dvs : List V} {kws : List (Str × V)} (F : FunA K x qual st f fd dvs kws) (S : FnScope N ps (defScope st)) (len : ∀ ds ms Q Z, fx ds ms Q Z → ds.length = ps.length)
    (body : ∀ (cdv : Value) (A : Around) (outer : List Env) (s : Shared) (H : Hp) (E : XK), RoomG k (A.deeper (envOfC qual (defScope st) s.heap.objs.size f cdv)) →
      ∀ W : WX, Takes (cxOf (L2.CX P w) P w K mg base N qual (defScope st) f cdv A outer s H E) W → PXs (cxOf (L2.CX P w) P w K mg base N qual (defScope st) f cdv A outer s H E) W (defBody st) t)
    (sem : ∀ ds ms Q Z, fx ds ms Q Z → t { nx := fun _ m => Q .non m, rt := Q, ex := fun c ns xs _ m => Z c ns xs m } (startD N.length ds) ms) : FnX P w K mg base (k + 1) f fd ps (spX K fx) := by
  have hlen : ∀ vs H Q E, spX K fx vs H Q E → vs.length = ps.length := by
    rintro vs H Q E ⟨F0, ds, ms, P0, Z, R, r, h, _⟩
    rw [r.length]
    exact len ds ms P0 Z h
  refine ⟨hlen, ?_⟩
  intro A outer s H args us vs Q E hr e0 hb r hsp
  obtain ⟨oc, od, dV, kV, doc, pm, an, cdv, ct, osl, rfl, lk, hcd, _, _⟩ := F.ex
  have hl := hlen _ _ _ _ hsp
  have KX : K.In s.heap := e0.mod.kin.keeps fun b o e => (e0.bs b o e).1
  have lim : s.heap.NoLimit := e0.mod.nolimit.keeps fun b o e => (e0.bs b o e).1
  have hkind : ∀ y ∈ ps.zip us, (defScope st).names.lookup y.1 = some .local ∨ ((defScope st).names.lookup y.1 = some .cell ∧
      ((cellsFrom (s.heap.objs.size + 1) (defScope st).names []).lookup y.1).isSome = true) := by
    rintro ⟨n, v⟩ hy
    exact (S.par n (List.of_mem_zip hy).1).imp id fun q => ⟨q, PySem.W.cellsFrom_some _ _ _ (.inl q)⟩
  have hr2 : RoomG k (A.deeper (envOfC qual (defScope st) s.heap.objs.size f cdv)) := ⟨hr.r.deeper _, hr.g⟩
  refine codeAny_call_function hr.r.depth (KX _ _ lk) rfl S.co S.gen rfl (PySem.W.codeRec_of KX hcd) (hb _ _ _ _ ?_)
  refine wpAny_newFunctionEnv_cells S.kind hkind fun env he s1 x1 => ?_
  subst he
  refine ⟨lim.keeps x1.toInCall.keep, codeAny_func ?_⟩
  have I : Inv (cxOf (L2.CX P w) P w K mg base N qual (defScope st) f cdv A outer s H E) [] (L2.start N vs) H s1 := inv_start S hr.r.hd e0 hl r x1
  have tk : Takes (cxOf (L2.CX P w) P w K mg base N qual (defScope st) f cdv A outer s H E) fun cls d _ H' => E cls d H' := takes_of rfl rfl rfl rfl
  have hq : liftX K (fun cls d _ H' => E cls d H') t { nx := fun _ H' => Q .non H', rt := Q } (L2.start N vs) H := by
    obtain ⟨F0, ds, ms, P0, Z, R, rd, h, q, z⟩ := hsp
    refine ⟨F0, startD N.length ds, ms, _, R, sl_start rd (by rw [hl, ← S.pre]; exact List.length_take_le' _ _), sem ds ms P0 Z h, ?_, ?_, ?_, ?_, ?_⟩
    · exact fun ds' ms' σ' F' H' y R' s' S' => q .non ms' .non F' H' y R' s' .non
    · exact fun d ms' v F' H' y R' s' r' => q d ms' v F' H' y R' s' r'
    · exact fun _ _ _ _ _ y _ _ _ => y.elim
    · exact fun _ _ _ _ _ y _ _ _ => y.elim
    · exact fun c ns xs ds' ms' cv d ws σ' F' H' y R' s' S' hn hx hd => z c ns xs ms' cv d ws F' H' y R' s' hn hx hd
  refine wpAny_mono ((body cdv A outer s H E hr2 _ tk).run [] s1 (L2.start N vs) H _ I hq) (fun fl s' hs => ?_) fun e s' hs => hs
  match fl, hs with
  | .ret u, hs =>
    obtain ⟨v, σ', H', J, rv, q⟩ := hs
    exact ⟨v, H', J.os, J.bare, J.base, J.hok, rv, q⟩
  | .next, hs =>
    obtain ⟨σ', H', J, q⟩ := hs
    exact ⟨V.non, H', J.os, J.bare, J.base, J.hok, rfl, q⟩
  | .brk, hs => obtain ⟨_, _, _, q⟩ := hs; exact False.elim q
  | .cont, hs => obtain ⟨_, _, _, q⟩ := hs; exact False.elim q
structure BndA (K : PySem.W.Frag) (fd : FuncData) (ps : List Str) (n : Nat) (ks : List Str) (is : List Nat) (dvs : List V) : Prop where
  to : ∃ its : List Value, Vals dvs its ∧ ∀ (s : Shared) (us ws : List Value), K.In s.heap → us.length = n → ws.length = ks.length → BindsTo s fd ⟨us, ks.zip ws⟩ (ps.zip (pick is (us ++ (ws ++ its))))
section
variable {K : PySem.W.Frag} {x qual : Str} {st : Stmt} {f : Addr} {fd : FuncData} {dvs : List V} {kws : List (Str × V)} {ps ks : List Str} {n : Nat} {is : List Nat}
/-- keyword-only defaults: lack those of mz -/
theorem bndA_kw (F : FunA K x qual st f fd [] kws) (mz : List (Str × V)) (hmz : ∀ q ∈ mz, q ∈ kws) (hk : kws ≠ [])
    (h : ∀ (D : Addr) (doc pm : Value) (an : Option Addr) (cdv ct : Value) (us ws mv : List Value), us.length = n → ws.length = ks.length → mv.length = mz.length →
      KwChain D ((mz.map (·.1)).zip mv) (bindArgs (PySem.W.fnOf x qual (defArgs st) (defBody st) (defScope st) .none (.ref D) doc pm an cdv ct) ⟨us, ks.zip ws⟩) (ps.zip (pick is (us ++ (ws ++ mv))))) : BndA K fd ps n ks is (mz.map (·.2)) := by
  obtain ⟨oc, od, dV, kV, doc, pm, an, cdv, ct, osl, rfl, lk, hcd, hD, hK⟩ := F.ex
  rcases hD with ⟨_, rfl⟩ | ⟨e, _⟩
  · rcases hK with e | ⟨D, rfl, hq⟩
    · exact absurd e hk
    · obtain ⟨mv, hl, rk, hks⟩ := kwd_vals (ms := mz) fun q hq' => hq q (hmz q hq')
      refine ⟨mv, rk, fun s us ws X h1 h2 => ?_⟩
      exact BindsTo.of_looks fun M => KwChain.looks X hks (h D doc pm an cdv ct us ws mv h1 h2 hl)
  · exact absurd rfl e
end
def dCallA (n m : Nat) (is : List Nat) (fs : FS) (dd : List D) (aa ak : DA) : DE := fun ds ms P => aa ds ms fun xs m1 => ak ds m1 fun zs m2 => xs.length = n ∧ zs.length = m ∧ fs (pick is (xs ++ (zs ++ dd))) m2 P
def dCallAZ (n m : Nat) (is : List Nat) (fx : FX) (dd : List D) (aa ak : DA) (Z : ZD) : DE := fun ds ms P => aa ds ms fun xs m1 => ak ds m1 fun zs m2 => xs.length = n ∧ zs.length = m ∧ fx (pick is (xs ++ (zs ++ dd))) m2 P fun c ns ys m' => Z c ns ys ds m'
section
variable {X : Cx} {W : WX} {Z : ZD} {k n m : Nat} {f : Addr} {fd : FuncData} {ps ks : List Str} {is : List Nat} {sp : Sp} {fs : FS} {fx : FX} {x : Str} {p pos : Pos} {e : Expr} {es : List Expr} {kws : List Keyword} {aa ak : DA} {dvs : List V} {dd : List D}
theorem run_xA {pins : List (Addr × Obj)} {σ : L2.St} {H : Hp} {s : Shared} {Q : VK} {us ws : List Value} {vs zs : List V} (tk : Takes X W) (F : FnX X.prog X.w X.K X.mg X.base k f fd ps (spX X.K fx)) (hr : RoomG k X.A) (hb : BndA X.K fd ps n ks is dvs)
    (I : Inv X pins σ H s) (r : Vals vs us) (rz : Vals zs ws) (l1 : vs.length = n) (l2 : zs.length = ks.length) (h : spX X.K fx (pick is (vs ++ (zs ++ dvs))) H Q fun cv d H3 => W cv d σ H3) :
    wpAny (model X.prog X.w) X.A (call (.ref f) us (ks.zip ws)) (EP X pins σ Q) X.xe s := by
  obtain ⟨its, ri, hto⟩ := hb.to
  have hb' := hto s us ws I.kIn (r.length ▸ l1) (rz.length ▸ l2)
  refine wpAny_call (codeAny_mono (F.go X.A X.stack s H ⟨us, ks.zip ws⟩ _ _ Q _ hr I.env0 hb' (pick_vals (r.append (rz.append ri)) is) h) fun r s' z => ?_)
  match r, z with
  | .error v, z => exact passAt tk σ pins H s v s' I z
  | .ok (.ret u), z => exact I.after z
  | .ok .next, z => exact False.elim z
  | .ok .brk, z => exact False.elim z
  | .ok .cont, z => exact False.elim z
def tCallXA (K : PySem.W.Frag) (W : WX) (n m : Nat) (is : List Nat) (fx : FX) (dvs : List V) (t tk : TA) : TE := fun σ H Q => t σ H fun vs H1 => tk σ H1 fun zs H2 => vs.length = n ∧ zs.length = m ∧ spX K fx (pick is (vs ++ (zs ++ dvs))) H2 Q fun cv d H3 => W cv d σ H3
theorem liftZ_callA {K : PySem.W.Frag} (hdd : ∀ F, DRs K F dvs dd) : ∀ σ H Q, liftZ K W Z (dCallAZ n m is fx dd aa ak Z) σ H Q → tCallXA K W n m is fx dvs (liftA K aa) (liftA K ak) σ H Q := fun σ H Q ⟨F, ds, ms, P, R, S, h1, h2, h3⟩ =>
  ⟨F, ds, ms, _, R, S, h1, fun xs m1 vs F1 H1 p1 R1 s1 r1 => ⟨F1, ds, m1, _, R1, S.mono s1.sub, p1, fun zs m2 ws F2 H2 p2 R2 s2 r2 => by
    obtain ⟨l1, l2, p2⟩ := p2
    refine ⟨r1.length.trans l1, r2.length.trans l2, F2, _, m2, P, _, R2, pick_drs ((r1.mono s2.sub).append (r2.append (hdd F2))) is, p2, fun d m3 v F3 H3 p3 R3 s3 r3 => ?_, fun c ns ys m3 cv d ws F3 H3 z R3 s3 hn hx hd => ?_⟩
    · exact h2 d m3 v F3 H3 p3 R3 (s1.trans (s2.trans s3)) r3
    · exact h3 c ns ys m3 cv d ws F3 H3 z R3 (s1.trans (s2.trans s3)) hn hx hd⟩⟩
theorem pdz_callA (tk : Takes X W) (F : FnX X.prog X.w X.K X.mg X.base k f fd ps (spX X.K fx)) (hr : RoomG k X.A) (hg : Gl X x) (hm : X.mg x = some (.ref f)) (hk : PySem.W.keepIn X.K (.ref f) = true) (hb : BndA X.K fd ps n [] is dvs) (hdd : ∀ F, DRs X.K F dvs dd)
    (ha : PDA X (e :: es) aa) (hdb : (x == ("__debug__" : Str)) = false := by decide)
    (he : starEach (e :: es) X.env = (false, eval e X.env) :: starEach es X.env := by rfl)
    (hpl : (backTo pos (starEach es X.env)).any (·.1) = false := by rfl) :
    PDZ X W Z (.Call (.Name x p) (e :: es) [] pos) (dCallAZ n 0 is fx dd aa aNil Z) := by
  refine peImp (t := tCallXA X.K W n 0 is fx dvs (liftA X.K aa) tNil) ⟨fun pins s σ H Q I h => ?_⟩ fun σ H Q h => ?_
  · refine wpAny_Call_Name_kw (ld_glob I hg hm ?_ hdb)
    refine PySem.W.callWith_K (h₀ := X.base) I.ok.mod.kin hk (thn (ha.run pos pins s σ H _ I h) ?_) he hpl
    rintro us s1 ⟨vs, H1, I1, r, l1, l2, q⟩
    exact ⟨I1.kIn, run_xA (ws := []) (zs := []) (ks := []) tk F hr hb I1 r .nil l1 rfl q⟩
  · obtain ⟨F0, ds, ms, P, R, S, h1, h2⟩ := liftZ_callA hdd σ H Q h
    refine ⟨F0, ds, ms, P, R, S, h1, fun xs m v F1 H1 p1 R1 s1 r1 => ?_⟩
    obtain ⟨F2, ds2, m2, P2, R2, S2, p2, q2⟩ := h2 xs m v F1 H1 p1 R1 s1 r1
    exact q2 [] m2 [] F2 H1 p2 R2 Stp.refl .nil
theorem pdz_callAK0 (tk : Takes X W) (F : FnX X.prog X.w X.K X.mg X.base k f fd ps (spX X.K fx)) (hr : RoomG k X.A) (hg : Gl X x) (hm : X.mg x = some (.ref f)) (hk : PySem.W.keepIn X.K (.ref f) = true) (hb : BndA X.K fd ps 0 ks is dvs) (hdd : ∀ F, DRs X.K F dvs dd)
    (hkw : PDK X kws ak) (hdb : (x == ("__debug__" : Str)) = false := by decide)
    (hall : (backToKw pos (keywordEach kws X.env)).all (·.1.isSome) = true := by rfl) (hks : (backToKw pos (keywordEach kws X.env)).filterMap (·.1) = ks := by rfl)
    (hpl : ((backTo pos (starEach [] X.env)).any (·.1) || (backToKw pos (keywordEach kws X.env)).any (·.1.isNone)) = false := by rfl)
    (hlen : ks.length = m := by rfl) :
    PDZ X W Z (.Call (.Name x p) [] kws pos) (dCallAZ 0 m is fx dd aNil ak Z) := by
  subst hlen
  refine peImp (t := tCallXA X.K W 0 ks.length is fx dvs tNil (liftA X.K ak)) ⟨fun pins s σ H Q I h => ?_⟩ fun σ H Q h => ?_
  · refine wpAny_Call_Name_kw (ld_glob I hg hm ?_ hdb)
    refine PySem.W.callWith_KW0 (h₀ := X.base) I.ok.mod.kin hk hall (thn (hkw.run pos pins s σ H _ I h) ?_) hpl
    rintro ws s2 ⟨zs, H2, I2, rz, l1, l2, q2⟩
    refine ⟨I2.kIn, ?_⟩
    rw [hks]
    exact run_xA (us := []) tk F hr hb I2 .nil rz rfl l2 q2
  · obtain ⟨F0, ds, ms, P, R, S, h1, h2⟩ := liftZ_callA hdd σ H Q h
    exact h2 [] ms [] F0 H h1 R Stp.refl .nil
end
section
variable {n k : Nat} {is : List Nat} {fs : FS} {fx : FX} {dd xs zs ys : List D} {aa ak : DA} {ds : DS} {ms m : MS} {P : D → MS → Prop} {Z : ZD}
def mCallA (n k : Nat) (is : List Nat) (fs : FS) (dd xs zs : List D) (m : MS) (P : D → MS → Prop) : Prop := xs.length = n ∧ zs.length = k ∧ fs (pick is (xs ++ (zs ++ dd))) m P
theorem w_callA (h : ArG aa ds ms fun xs m1 => ArG ak ds m1 fun zs m2 => mCallA n k is fs dd xs zs m2 P) : dCallA n k is fs dd aa ak ds ms P := h
theorem w_mCallA (e1 : xs.length = n) (e2 : zs.length = k) (e : pick is (xs ++ (zs ++ dd)) = ys) (h : fs ys m P) : mCallA n k is fs dd xs zs m P := ⟨e1, e2, by rw [e]; exact h⟩
def mCallAZ (n k : Nat) (is : List Nat) (fx : FX) (dd : List D) (Z : ZD) (ds : DS) (xs zs : List D) (m : MS) (P : D → MS → Prop) : Prop := xs.length = n ∧ zs.length = k ∧ fx (pick is (xs ++ (zs ++ dd))) m P fun c ns ys m' => Z c ns ys ds m'
theorem w_callAZ (h : ArG aa ds ms fun xs m1 => ArG ak ds m1 fun zs m2 => mCallAZ n k is fx dd Z ds xs zs m2 P) : dCallAZ n k is fx dd aa ak Z ds ms P := h
theorem w_mCallAZ (e1 : xs.length = n) (e2 : zs.length = k) (e : pick is (xs ++ (zs ++ dd)) = ys) (h : fx ys m P fun c ns ys m' => Z c ns ys ds m') : mCallAZ n k is fx dd Z ds xs zs m P := ⟨e1, e2, by rw [e]; exact h⟩
end
end DL
namespace DL
open PySem PySem.Spec PyProof.Rows L2
def asT (d : D) (ms : MS) : Option (List D) := match d with
  | .tup xs => some xs
  | d => asL d ms
def aStar (de : DE) (da : DA) : DA := fun ds ms P => de ds ms fun d m1 => match asT d m1 with
  | some xs => da ds m1 fun ys m2 => P (xs ++ ys) m2
  | none => False
end DL
namespace DL
open PySem PySem.Spec PyProof.Rows L2
def dLcM (di : DI) (g : DG) (tt : DT) (te : DE) (vs : List Nat) : DE := fun ds ms P => di ds ms fun xs m => compD g tt te (wipeD ds vs) xs [] m fun ys m' => ∀ p, (∀ q ∈ m', q.1 ≠ p) → P (.opq (.ref p)) ((p, ys) :: m')
section
variable {K : PySem.W.Frag} {di : DI} {dg : DG} {tt : DT} {te : DE} {g : TG} {vs : List Nat}
theorem lift_lcM (hg : TgD K g dg vs) (hm : MonG g) : ∀ σ H Q, lift K (dLcM di dg tt te vs) σ H Q → tLc (liftI K di) g (liftT K tt) (lift K te) vs σ H Q := fun σ H Q ⟨F, ds, ms, P, R, S, h, q⟩ => by
  refine ⟨F, ds, ms, _, R, S, h, fun xs m F0 H0 J p0 R0 s0 wk L hL => ?_⟩
  have nL : F0 L = none := R0.sub.none hL
  have nM : ∀ p ∈ m, p.1 ≠ L := fun p hp => by
    obtain ⟨_, ws, h2, _⟩ := R0.mu p hp
    exact ne_of_none h2 hL
  refine lc_it wk (fun i H1 => ∃ F1 m1 acc av, Rel K F1 H1 m1 ∧ Stp F0 H0 m F1 H1 m1 ∧ H1 L = some (.lst av) ∧ F1 L = none ∧ (∀ p ∈ m1, p.1 ≠ L) ∧ DRs K F1 av acc ∧ compD dg tt te (wipeD ds vs) (xs.drop i) acc m1 fun ys m' => ∀ p, (∀ q ∈ m', q.1 ≠ p) → P (.opq (.ref p)) ((p, ys) :: m'))
    ⟨F0, m, [], [], R0.lay hL, ⟨Sub.refl F0, fun a u h1 _ _ => by rw [upd_ne (ne_of_none h1 hL)]; exact h1, fun _ _ h => .inl h, fun q hq => .inl ⟨q, hq, rfl⟩⟩, upd_same, nL, nM, .nil, p0⟩
    (fun i H1 _ ⟨F1, m1, acc, av, R1, s1, _⟩ => s1.sub.trans R1.sub) ?_ ?_
  · rintro i x H1 H2 hi ⟨F1, m1, acc, av, R1, s1, hD, hF, hM, ra, h1⟩ ⟨d, hd, hy⟩
    rw [drop_get hd] at h1
    have fin : ∀ {F2 : Hp} {x : V}, Rel K F2 H2 m1 → Stp F0 H0 m F2 H2 m1 → Sub F1 F2 → DR K F2 x d → H2 L = some (.lst av) → F2 L = none →
        g x (L2.wipe σ vs) H2 fun σ2 H3 => L2.wipe σ2 vs = L2.wipe σ vs ∧ liftT K tt σ2 H3 fun b H4 => if b = true then lift K te σ2 H4 fun y H5 => ∃ acc, H5 L = some (.lst acc) ∧ acc.length < sizeLine ∧
          (∃ F1 m1 acc' av, Rel K F1 (upd H5 L (.lst (acc ++ [y]))) m1 ∧ Stp F0 H0 m F1 (upd H5 L (.lst (acc ++ [y]))) m1 ∧ (upd H5 L (.lst (acc ++ [y]))) L = some (.lst av) ∧ F1 L = none ∧ (∀ p ∈ m1, p.1 ≠ L) ∧ DRs K F1 av acc' ∧ compD dg tt te (wipeD ds vs) (xs.drop (i + 1)) acc' m1 fun ys m' => ∀ p, (∀ q ∈ m', q.1 ≠ p) → P (.opq (.ref p)) ((p, ys) :: m'))
          else ∃ F1 m1 acc av, Rel K F1 H4 m1 ∧ Stp F0 H0 m F1 H4 m1 ∧ H4 L = some (.lst av) ∧ F1 L = none ∧ (∀ p ∈ m1, p.1 ≠ L) ∧ DRs K F1 av acc ∧ compD dg tt te (wipeD ds vs) (xs.drop (i + 1)) acc m1 fun ys m' => ∀ p, (∀ q ∈ m', q.1 ≠ p) → P (.opq (.ref p)) ((p, ys) :: m') := by
      intro F2 x R2 s2 s12 rx hD2 hF2
      have hw := hg.wip x (L2.wipe σ vs) H2 _ (hg.snd x (L2.wipe σ vs) F2 H2 (fun σ2 H3 => H3 = H2 ∧ ∃ ds2, Sl K F2 σ2 ds2 ∧ tt ds2 m1 fun b m3 => if b = true then te ds2 m3 fun y m4 => acc.length < sizeLine ∧ compD dg tt te (wipeD ds vs) (xs.drop (i + 1)) (acc ++ [y]) m4 fun ys m' => ∀ p, (∀ q ∈ m', q.1 ≠ p) → P (.opq (.ref p)) ((p, ys) :: m') else compD dg tt te (wipeD ds vs) (xs.drop (i + 1)) acc m3 fun ys m' => ∀ p, (∀ q ∈ m', q.1 ≠ p) → P (.opq (.ref p)) ((p, ys) :: m')) d (wipeD ds vs) _ R2.sub ((S.wipe vs).mono (s0.sub.trans s2.sub)) rx h1 fun ds2 σ2 h2 S2 => ⟨rfl, ds2, S2, h2⟩)
      refine hm _ _ _ _ _ ?_ hw
      rintro σ2 H3 ⟨e1, rfl, ds2, S2, h2⟩
      refine ⟨e1.trans (wipe_wipe fun u hu => hu), F2, ds2, m1, _, R2, S2, h2, fun b m4 F4 H4 p4 R4 s4 => ?_⟩
      obtain ⟨hD4, hF4, hM4⟩ := s4.kp hD2 hF2 hM
      cases b with
      | false =>
        rw [if_neg Bool.false_ne_true] at p4 ⊢
        exact ⟨F4, m4, acc, av, R4, s2.trans s4, hD4, hF4, hM4, (ra.mono s12).mono s4.sub, p4⟩
      | true =>
        rw [if_pos rfl] at p4 ⊢
        refine ⟨F4, ds2, m4, _, R4, S2.mono s4.sub, p4, fun y m5 v5 F5 H5 p5 R5 s5 r5 => ?_⟩
        obtain ⟨hD5, hF5, hM5⟩ := s5.kp hD4 hF4 hM4
        have ra5 := ((ra.mono s12).mono s4.sub).mono s5.sub
        have s05 := (s2.trans s4).trans s5
        refine ⟨av, hD5, by rw [ra.length]; exact p5.1, F5, m5, acc ++ [y], av ++ [v5], ?_, ?_, upd_same, hF5, hM5, ra5.append (.cons r5 .nil), p5.2⟩
        · refine ⟨fun b u e => ?_, fun p hp => ?_, R5.nd, R5.one⟩
          · rw [upd_ne (fun z => by rw [z, hF5] at e; cases e)]; exact R5.sub b u e
          · obtain ⟨z1, ws, z2, z3⟩ := R5.mu p hp
            exact ⟨z1, ws, by rw [upd_ne (hM5 p hp)]; exact z2, z3⟩
        · exact ⟨s05.sub, fun a u z1 z2 z3 => by rw [upd_ne (ne_of_none z1 hL)]; exact s05.keep a u z1 z2 z3, s05.newF, s05.newM⟩
    rcases hy with ⟨rfl, rx⟩ | ⟨T, a, b, da, db, rfl, hT, rfl, rfl, ra', rb'⟩
    · exact fin R1 s1 (Sub.refl F1) (rx.mono s1.sub) hD hF
    · have hne : L ≠ T := ne_of_none hD hT
      exact fin (R1.new hT) (s1.trans (Stp.new R1 hT)) (Sub.new (R1.sub.none hT)) (R1.newTup hT (.cons (ra'.mono s1.sub) (.cons (rb'.mono s1.sub) .nil))) (by rw [upd_ne hne]; exact hD) (by rw [upd_ne hne]; exact hF)
  · rintro H1 ⟨F1, m1, acc, av, R1, s1, hD, hF, hM, ra, h1⟩
    rw [List.drop_length] at h1
    refine q _ ((L, acc) :: m1) (.ref L) F1 H1 (h1 L hM) ?_ (s0.trans ?_) (.opq _)
    · refine ⟨R1.sub, fun p hp => ?_, ?_, R1.one⟩
      · rcases List.mem_cons.mp hp with rfl | hp
        · exact ⟨hF, av, hD, ra⟩
        · exact R1.mu p hp
      · rw [List.map_cons, List.nodup_cons]
        refine ⟨fun hm => ?_, R1.nd⟩
        obtain ⟨q, hq, e⟩ := List.mem_map.mp hm
        exact hM q hq e
    · refine ⟨s1.sub, s1.keep, s1.newF, fun p hp => ?_⟩
      rcases List.mem_cons.mp hp with rfl | hp
      · exact .inr (.inl hL)
      · exact s1.newM p hp
end
section
variable {X : Cx} {elt tg iter : Expr} {ifs : List Expr} {scope : Scope} {own : List (Str × Nat)} {pos spos py : Pos} {di : DI} {g : TG} {dg : DG} {tt : DT} {te : DE} {i : Nat} {y : Str}
theorem pd_lcM (hc : X.calm = true) (hN : X.N.Nodup) (hi : PDI X tg iter di) (ok : BlkOk X.N X.env.scope scope own)
    (hg : ∀ (s : Shared) (H : Hp) (C : Addr) (cl : List (Str × Addr)) (fp : List Addr), PG (X.blk s H scope (compEnvC scope cl C X.env) fp) tg g)
    (hd : TgD X.K g dg (own.map (·.2))) (hm : MonG g)
    (ht : ∀ (s : Shared) (H : Hp) (C : Addr) (cl : List (Str × Addr)) (fp : List Addr), PDTs (X.blk s H scope (compEnvC scope cl C X.env) fp) ifs tt)
    (he : ∀ (s : Shared) (H : Hp) (C : Addr) (cl : List (Str × Addr)) (fp : List Addr), PD (X.blk s H scope (compEnvC scope cl C X.env) fp) elt te)
    (hs : ∀ x, foldedSetIterable iter X.env x = pure x := by intro _; rfl) :
    PD X (.ListComp elt [⟨tg, iter, ifs, 0⟩] scope pos) (dLcM di dg tt te (own.map (·.2))) :=
  peImp (pe_lc hc hN hi ok hg ht he hs) (lift_lcM hd hm)
end
/-- a + b, lists, written to -/
def fAddM : OF := fun x y ms P => match x, y with
  | .lst a, .lst b => a.length + b.length ≤ sizeLine ∧ ∀ p, (∀ q ∈ ms, q.1 ≠ p) → P (.opq (.ref p)) ((p, a ++ b) :: ms)
  | _, _ => False
theorem opd_addM {K : PySem.W.Frag} : OpD K (rAddD K) fAddM := by
  intro F H ms x y dx dy P Q R rx ry h q
  cases rx with
  | lst h1 r1 => cases ry with
    | lst h2 r2 =>
      refine .inr (.inr (.inl ⟨_, _, _, _, rfl, rfl, R.sub _ _ h1, R.sub _ _ h2, by rw [r1.length, r2.length]; exact h.1, fun p hp => ?_⟩))
      exact q _ _ _ F _ (h.2 p (R.newMut hp (r1.append r2)).1) (R.newMut hp (r1.append r2)).2 (Stp.newMut hp) (.opq _)
    | _ => exact h.elim
  | _ => exact h.elim
/-- list(x), written to -/
def cListM : CF := fun xs ms P => match xs with
  | [.tup ys] => ∀ p, (∀ q ∈ ms, q.1 ≠ p) → P (.opq (.ref p)) ((p, ys) :: ms)
  | [.lst ys] => ∀ p, (∀ q ∈ ms, q.1 ≠ p) → P (.opq (.ref p)) ((p, ys) :: ms)
  | _ => False
theorem cal_listM {K : PySem.W.Frag} : CalD K (fun xs H Q => ∃ p ys, xs = [.ref p] ∧ (SqL K H p ys ∨ SqT K H p ys) ∧ ∀ l, H l = none → Q (.ref l) (upd H l (.lst ys))) cListM := fun F H ms vs xs P Q R r h q => by
  match xs, r, h with
  | a :: _ :: _, _, h => cases a <;> exact h.elim
  | [d], .cons (v := v) rd .nil, h =>
    cases rd with
    | tup ha hs => exact ⟨_, _, rfl, .inr (R.sub.sqT ha), fun l hl => q _ _ _ F _ (h l (R.newMut hl hs).1) (R.newMut hl hs).2 (Stp.newMut hl) (.opq _)⟩
    | lst ha hs => exact ⟨_, _, rfl, .inl (SqL.of (R.sub _ _ ha)), fun l hl => q _ _ _ F _ (h l (R.newMut hl hs).1) (R.newMut hl hs).2 (Stp.newMut hl) (.opq _)⟩
    | _ => exact h.elim
theorem w_listM_t {ys : List D} {ms : MS} {P : D → MS → Prop} (h : ∀ p, (∀ q ∈ ms, q.1 ≠ p) → P (.opq (.ref p)) ((p, ys) :: ms)) : cListM [.tup ys] ms P := h
theorem w_listM_l {ys : List D} {ms : MS} {P : D → MS → Prop} (h : ∀ p, (∀ q ∈ ms, q.1 ≠ p) → P (.opq (.ref p)) ((p, ys) :: ms)) : cListM [.lst ys] ms P := h
/-- ahead of a statement a list that changes no more is made fast -/
def dFrzS (i : Nat) (t : DTS) : DTS := fun E ds ms => match slot ds i with
  | some (.opq (.ref p)) => (match look ms p with
    | some xs => t E (setSlot ds i (.lst xs)) (drp ms p)
    | none => False)
  | _ => False
theorem setSlot_σ : ∀ {K : PySem.W.Frag} {F : Hp} {σ : L2.St} {ds : DS} {i : Nat} {v : V} {d : D}, Sl K F σ ds → σ[i]? = some (some v) → DR K F v d → Sl K F σ (setSlot ds i d)
  | _, _, _, _, i, _, _, .nil, _, _ => by cases i <;> exact .nil
  | _, _, _, _, 0, _, _, .sm h r, e, q => by cases e; exact .sm q r
  | _, _, _, _, 0, _, _, .nn r, e, q => by
    have e' := Option.some.inj e
    subst e'
    exact .sm q r
  | _, _, _, _, i + 1, _, _, .sm h r, e, q => .sm h (setSlot_σ (i := i) r e q)
  | _, _, _, _, i + 1, _, _, .nn r, e, q => .nn (setSlot_σ (i := i) r e q)
theorem liftS_frz {K : PySem.W.Frag} {t : DTS} {i : Nat} : ∀ D σ H, liftS K (dFrzS i t) D σ H → liftS K t D σ H := fun D σ H ⟨F, ds, ms, E, R, S, h, n, r, k, q⟩ => by
  unfold dFrzS at h
  split at h
  · rename_i p e
    split at h
    · rename_i xs e1
      obtain ⟨v, hv, hr⟩ := S.get e
      cases hr
      obtain ⟨vs, z1, z2, z3⟩ := relFrz R e1
      exact ⟨_, _, _, E, z1, setSlot_σ (S.mono z2.sub) hv z3, h, fun ds' m' σ' F' H' h' R' s' S' => n ds' m' σ' F' H' h' R' (z2.trans s') S', fun d m' v' F' H' h' R' s' r' => r d m' v' F' H' h' R' (z2.trans s') r',
        fun ds' m' σ' F' H' h' R' s' S' => k ds' m' σ' F' H' h' R' (z2.trans s') S', fun ds' m' σ' F' H' h' R' s' S' => q ds' m' σ' F' H' h' R' (z2.trans s') S'⟩
    · exact h.elim
  · exact h.elim
theorem pds_frz {X : Cx} {st : Stmt} {t : DTS} {i : Nat} (h : PDS X st t) : PDS X st (dFrzS i t) := psImp h liftS_frz
theorem w_frzS {t : DTS} {E : EN} {ds ds' : DS} {ms ms' : MS} {i : Nat} {p : Addr} {xs : List D} (e : slot ds i = some (.opq (.ref p))) (e1 : look ms p = some xs) (e2 : setSlot ds i (.lst xs) = ds') (e3 : drp ms p = ms') (h : StG t E ds' ms') : dFrzS i t E ds ms := by
  unfold dFrzS; simp only [e, e1, e2, e3]; exact h
theorem w_lcM {di : DI} {g : DG} {tt : DT} {te : DE} {vs : List Nat} {ds : DS} {ms : MS} {P : D → MS → Prop} (h : ItG di ds ms fun xs m => compD g tt te (wipeD ds vs) xs [] m fun ys m' => ∀ p, (∀ q ∈ m', q.1 ≠ p) → P (.opq (.ref p)) ((p, ys) :: m')) : dLcM di g tt te vs ds ms P := h
theorem w_addM {a c : List D} {ms : MS} {P : D → MS → Prop} (h : a.length + c.length ≤ sizeLine ∧ ∀ p, (∀ q ∈ ms, q.1 ≠ p) → P (.opq (.ref p)) ((p, a ++ c) :: ms)) : fAddM (.lst a) (.lst c) ms P := h
mutual
def flat : D → Bool
  | .non => true
  | .bl _ => true
  | .int _ => true
  | .str _ => true
  | .tup xs => flats xs
  | .opq _ => true
  | .lst _ => false
  | .fro _ => false
  | .edic => false
  | .dct _ => false
  | .exc _ _ _ => false
def flats : List D → Bool
  | [] => true
  | x :: r => flat x && flats r
end
def flatM (ms : MS) : Prop := ∀ q ∈ ms, flats q.2 = true
mutual
theorem DR.flat {K : PySem.W.Frag} {F F' : Hp} (e : ∀ b vs, (F b = some (.tup vs) → F' b = some (.tup vs)) ∧ ∀ o, F b = some (.frz o (.tup vs)) → F' b = some (.frz o (.tup vs))) : ∀ {v : V} {d : D}, flat d = true → DR K F v d → DR K F' v d
  | _, _, _, .non => .non
  | _, _, _, .bl b => .bl b
  | _, _, _, .int i => .int i
  | _, _, _, .str x => .str x
  | _, _, h, .tup (a := a) (xs := xs) hq hs => .tup (by
      rcases hq with (h1 | ⟨o, h1⟩) | h1
      · exact .inl (.inl ((e _ _).1 h1))
      · exact .inl (.inr ⟨o, (e _ _).2 o h1⟩)
      · exact .inr h1) (DRs.flat e h hs)
  | _, _, _, .opq v => .opq v
  | _, _, h, .lst _ _ => by cases h
  | _, _, h, .fro _ _ => by cases h
  | _, _, h, .edic _ => by cases h
  | _, _, h, .dct _ => by cases h
  | _, _, h, .exc _ _ _ _ => by cases h
theorem DRs.flat {K : PySem.W.Frag} {F F' : Hp} (e : ∀ b vs, (F b = some (.tup vs) → F' b = some (.tup vs)) ∧ ∀ o, F b = some (.frz o (.tup vs)) → F' b = some (.frz o (.tup vs))) : ∀ {vs : List V} {ds : List D}, flats ds = true → DRs K F vs ds → DRs K F' vs ds
  | _, _, _, .nil => .nil
  | _, _, h, .cons h1 h2 => .cons (DR.flat e (Bool.and_eq_true_iff.mp h).1 h1) (DRs.flat e (Bool.and_eq_true_iff.mp h).2 h2)
end
def dLoan (i : Nat) (de : DE) : DE := fun ds ms P => match slot ds i with
  | some (.opq (.ref p)) => (match look ms p with
    | some xs => de (setSlot ds i (.lst xs)) (drp ms p) fun d m => flat d = true ∧ flatM m ∧ P d ((p, xs) :: m)
    | none => False)
  | _ => False
theorem w_loan {i : Nat} {de : DE} {ds ds' : DS} {ms ms' : MS} {P : D → MS → Prop} {p : Addr} {xs : List D} (e : slot ds i = some (.opq (.ref p))) (e1 : look ms p = some xs) (e2 : setSlot ds i (.lst xs) = ds') (e3 : drp ms p = ms') (h : ExG de ds' ms' fun d m => flat d = true ∧ flatM m ∧ P d ((p, xs) :: m)) : dLoan i de ds ms P := by
  unfold dLoan; simp only [e, e1, e2, e3]; exact h
def mSetIx (E : EN) (ds : DS) (v o i : D) (m3 : MS) : Prop := match o, i with
  | .opq (.ref p), .int k => (match look m3 p with
    | some xs => (match ixN xs.length k with
      | some j => E.nx ds (put m3 p (xs.set j v))
      | none => False)
    | none => False)
  | _, _ => False
theorem w_setIx {do_ di dv : DE} {E : EN} {ds : DS} {ms : MS} (h : ExG dv ds ms fun v m1 => ExG do_ ds m1 fun o m2 => ExG di ds m2 fun i m3 => mSetIx E ds v o i m3) : dSetIx do_ di dv E ds ms := h
end DL
namespace DL
open PySem PySem.Spec PyProof.Rows L2
/-- C(..), an own class without an __init__ -/
def dMk0 (c : Str) (aa : DA) : DE := fun ds ms P => aa ds ms fun xs m => xs.length ≤ sizeLine ∧ P (.exc c [] []) m
/-- C(..), an own class that keeps its arguments -/
def dMkI (c : Str) (fs : List Str) (aa : DA) : DE := fun ds ms P => aa ds ms fun xs m => xs.length = fs.length ∧ P (.exc c fs xs) m
structure CntOk (a : List D) (d : D) (n : Nat) : Prop where
  ex : ∃ ps q, toPys a = some ps ∧ toPy d = some q ∧ PyData.plainAll ps = true ∧ q.plain = true ∧ q.depth ≤ 60 ∧ n = ps.countP fun y => PyData.eqv y q
def dCount (dx : DE) (aa : DA) : DE := fun ds ms P => dx ds ms fun x m1 => match x with
  | .lst a => aa ds m1 fun ys m2 => (match ys with
    | [y] => ∃ n, CntOk a y n ∧ P (.int n) m2
    | _ => False)
  | _ => False
def kitAll (K : PySem.W.Frag) (cw : Value) (l : List (Addr × Bool)) : Bool := l.all fun p => decide (PySem.W.kitOne K (.ref p.1) cw = some p.2)
section
variable {K : PySem.W.Frag} {cw : Value} {c : Str} {C : Addr} {b : Bool} {l : List (Addr × Bool)} {ml : List (Str × Bool)}
theorem mlK_n : kitAll K cw [] = true → MlK K cw [] := fun _ => mlK_nil
theorem mlK_c (E1 : ExB K c C) (r : kitAll K cw l = true → MlK K cw ml) : kitAll K cw ((C, b) :: l) = true → MlK K cw ((c, b) :: ml) := fun h => by
  obtain ⟨h1, h2⟩ := Bool.and_eq_true_iff.mp h
  exact mlK_b E1 (of_decide_eq_true h1) (r h2)
end
section
variable {ds : DS} {ms m : MS} {P : D → MS → Prop} {aa : DA} {dx : DE} {c : Str} {fs : List Str} {xs ys : List D} {A : Prop} {α β : Type} {u : List α} {v : List β}
theorem w_mk0 (h : ArG aa ds ms fun xs m => xs.length ≤ sizeLine ∧ P (.exc c [] []) m) : dMk0 c aa ds ms P := h
theorem w_mkI (h : ArG aa ds ms fun xs m => xs.length = fs.length ∧ P (.exc c fs xs) m) : dMkI c fs aa ds ms P := h
theorem w_lenq (e : u.length = v.length) (h : A) : u.length = v.length ∧ A := ⟨e, h⟩
def mCnt (aa : DA) (ds : DS) (x : D) (m : MS) (P : D → MS → Prop) : Prop := match x with
  | .lst a => aa ds m fun ys m2 => (match ys with
    | [y] => ∃ n, CntOk a y n ∧ P (.int n) m2
    | _ => False)
  | _ => False
def mCnt2 (a ys : List D) (m : MS) (P : D → MS → Prop) : Prop := match ys with
  | [y] => ∃ n, CntOk a y n ∧ P (.int n) m
  | _ => False
theorem w_count (h : ExG dx ds ms fun x m => mCnt aa ds x m P) : dCount dx aa ds ms P := h
theorem w_mCnt (h : ArG aa ds m fun ys m2 => mCnt2 xs ys m2 P) : mCnt aa ds (.lst xs) m P := h
end
end DL
namespace DL
open PySem PySem.Spec PyProof.Rows L2
abbrev MF := Str → List D → MS → (D → MS → Prop) → Prop
def dM1 (f : MF) (dx dy : DE) : DE := fun ds ms P => dx ds ms fun x m1 => match x with
  | .str a => dy ds m1 fun y m2 => f a [y] m2 P
  | _ => False
def mPart : MF := fun a ys ms P => match ys with
  | [.str b] => (b.length == 0) = false ∧ a.length ≤ sizeLine ∧ P (.tup [.str (Txt.partition a b).1, .str (Txt.partition a b).2.1, .str (Txt.partition a b).2.2]) ms
  | _ => False
def mStarts : MF := fun a ys ms P => match ys with
  | [.str b] => P (.bl (Txt.startswith a b)) ms
  | _ => False
def mEnds : MF := fun a ys ms P => match ys with
  | [.str b] => P (.bl (Txt.endswith a b)) ms
  | _ => False
def mSplit : MF := fun a ys ms P => match ys with
  | [.str b] => (b.length == 0) = false ∧ a.length + 2 ≤ sizeLine ∧ P (.lst ((Txt.split a b).map D.str)) ms
  | _ => False
def mZfill : MF := fun a ys ms P => match ys with
  | [.int i] => PadOk i = true ∧ P (.str (Txt.zfill a i)) ms
  | _ => False
def mRemSuf : MF := fun a ys ms P => match ys with
  | [.str b] => a.length ≤ sizeLine ∧ P (.str (Txt.removesuffix a b)) ms
  | _ => False
def dJoinRev (dx dy : DE) : DE := fun ds ms P => dx ds ms fun x m1 => match x with
  | .str a => dy ds m1 fun y m2 => ∃ zs : List Str, asL y m2 = some (zs.map D.str) ∧ (zs.reverse.map (·.length)).sum + zs.reverse.length * a.length ≤ 16777216 ∧ P (.str (Txt.join a zs.reverse)) m2
  | _ => False
def cDivmod : CF := fun xs ms P => match xs with
  | [.int i, .int j] => CDivP i j ∧ P (.tup [.int (i / j), .int (i % j)]) ms
  | _ => False
def fInS (neg : Bool) : OF := fun x y ms P => match x, y with
  | .str a, .str z => ∃ c : Nat, a = ⟨#[c]⟩ ∧ P (.bl (Bool.xor neg (decide (c ∈ z.cps.toList)))) ms
  | _, _ => False
def fInSign : OF := fInS false
def fNotInSign : OF := fInS true
theorem opd_inSign {K : PySem.W.Frag} : OpD K (fun x y H Q => ∃ (c : Nat) (z : Str), x = .str ⟨#[c]⟩ ∧ y = .str z ∧ Q (.bl (decide (c ∈ z.cps.toList))) H) fInSign := fun F H ms x y dx dy P Q R rx ry h q => by
  match dx, dy, h, rx, ry with
  | .str a, .str z, ⟨c, e, h⟩, .str _, .str _ => subst e; exact ⟨c, z, rfl, rfl, by simpa using q _ ms _ F H h R Stp.refl (.bl _)⟩
def dFmt (de : DE) : DE := fun ds ms P => de ds ms fun x m => match x with
  | .str y => y.length ≤ sizeLine ∧ P (.str y) m
  | .int i => i.natAbs.log2 < 1920 ∧ P (.str (toString i)) m
  | _ => False
def jsD : List DE → Str → DS → MS → (Str → MS → Prop) → Prop
  | [], acc, _, ms, P => P acc ms
  | t :: ts, acc, ds, ms, P => t ds ms fun x m => match x with
    | .str y => (acc ++ y).length ≤ sizeLine ∧ jsD ts (acc ++ y) ds m P
    | _ => False
def dJoined (ts : List DE) : DE := fun ds ms P => jsD ts Str.empty ds ms fun out m => P (.str out) m
section
variable {ds : DS} {ms m : MS} {P : D → MS → Prop} {dx dy de : DE} {f : MF} {a b z : Str} {i j : Int} {zs : List Str} {ts : List DE} {y d : D}
def mM1 (f : MF) (dy : DE) (ds : DS) (x : D) (m : MS) (P : D → MS → Prop) : Prop := match x with
  | .str a => dy ds m fun y m2 => f a [y] m2 P
  | _ => False
def MtG (f : MF) (a : Str) (ys : List D) (m : MS) (P : D → MS → Prop) : Prop := f a ys m P
theorem w_m1 (h : ExG dx ds ms fun x m => mM1 f dy ds x m P) : dM1 f dx dy ds ms P := h
theorem w_mM1 (h : ExG dy ds m fun y m2 => MtG f a [y] m2 P) : mM1 f dy ds (.str a) m P := h
theorem w_part (h : (b.length == 0) = false ∧ a.length ≤ sizeLine ∧ P (.tup [.str (Txt.partition a b).1, .str (Txt.partition a b).2.1, .str (Txt.partition a b).2.2]) ms) : MtG mPart a [.str b] ms P := h
theorem w_starts (h : P (.bl (Txt.startswith a b)) ms) : MtG mStarts a [.str b] ms P := h
theorem w_ends (h : P (.bl (Txt.endswith a b)) ms) : MtG mEnds a [.str b] ms P := h
theorem w_split (h : (b.length == 0) = false ∧ a.length + 2 ≤ sizeLine ∧ P (.lst ((Txt.split a b).map D.str)) ms) : MtG mSplit a [.str b] ms P := h
theorem w_zfill (h : PadOk i = true ∧ P (.str (Txt.zfill a i)) ms) : MtG mZfill a [.int i] ms P := h
theorem w_remSuf (h : a.length ≤ sizeLine ∧ P (.str (Txt.removesuffix a b)) ms) : MtG mRemSuf a [.str b] ms P := h
def mJr (dy : DE) (ds : DS) (x : D) (m : MS) (P : D → MS → Prop) : Prop := match x with
  | .str a => dy ds m fun y m2 => ∃ zs : List Str, asL y m2 = some (zs.map D.str) ∧ (zs.reverse.map (·.length)).sum + zs.reverse.length * a.length ≤ 16777216 ∧ P (.str (Txt.join a zs.reverse)) m2
  | _ => False
def mJr2 (a : Str) (y : D) (m : MS) (P : D → MS → Prop) : Prop := ∃ zs : List Str, asL y m = some (zs.map D.str) ∧ (zs.reverse.map (·.length)).sum + zs.reverse.length * a.length ≤ 16777216 ∧ P (.str (Txt.join a zs.reverse)) m
theorem w_joinRev (h : ExG dx ds ms fun x m => mJr dy ds x m P) : dJoinRev dx dy ds ms P := h
theorem w_mJr (h : ExG dy ds m fun y m2 => mJr2 a y m2 P) : mJr dy ds (.str a) m P := h
theorem w_divmod (h : CDivP i j ∧ P (.tup [.int (i / j), .int (i % j)]) ms) : cDivmod [.int i, .int j] ms P := h
theorem w_inSign {c : Nat} (h : P (.bl (decide (c ∈ z.cps.toList))) ms) : fInSign (.str ⟨#[c]⟩) (.str z) ms P := ⟨c, rfl, by simpa using h⟩
theorem w_notInSign {c : Nat} (h : P (.bl (!decide (c ∈ z.cps.toList))) ms) : fNotInSign (.str ⟨#[c]⟩) (.str z) ms P := ⟨c, rfl, by simpa using h⟩
def mFmt (x : D) (m : MS) (P : D → MS → Prop) : Prop := match x with
  | .str y => y.length ≤ sizeLine ∧ P (.str y) m
  | .int i => i.natAbs.log2 < 1920 ∧ P (.str (toString i)) m
  | _ => False
theorem w_fmt (h : ExG de ds ms fun x m => mFmt x m P) : dFmt de ds ms P := h
theorem w_mFmtS (h : a.length ≤ sizeLine ∧ P (.str a) m) : mFmt (.str a) m P := h
theorem w_mFmtI (h : i.natAbs.log2 < 1920 ∧ P (.str (toString i)) m) : mFmt (.int i) m P := h
def JsG (ts : List DE) (acc : Str) (ds : DS) (ms : MS) (P : Str → MS → Prop) : Prop := jsD ts acc ds ms P
def mJs (ts : List DE) (acc : Str) (ds : DS) (x : D) (m : MS) (P : Str → MS → Prop) : Prop := match x with
  | .str y => (acc ++ y).length ≤ sizeLine ∧ jsD ts (acc ++ y) ds m P
  | _ => False
theorem w_joined (h : JsG ts Str.empty ds ms fun out m => P (.str out) m) : dJoined ts ds ms P := h
theorem w_jsN {P : Str → MS → Prop} (h : P a ms) : JsG [] a ds ms P := h
theorem w_jsC {P : Str → MS → Prop} (h : ExG de ds ms fun x m => mJs ts a ds x m P) : JsG (de :: ts) a ds ms P := h
theorem w_mJs {P : Str → MS → Prop} (h : (a ++ b).length ≤ sizeLine ∧ JsG ts (a ++ b) ds m P) : mJs ts a ds (.str b) m P := h
end
end DL
namespace DL
open PySem PySem.Spec PyProof.Rows L2
def maxOf : List Int → Int → Int
  | [], d => d
  | n :: r, _ => r.foldl max n
def dMaxDef (aa ak : DA) : DE := fun ds ms P => aa ds ms fun xs m1 => ak ds m1 fun zs m2 => match xs, zs with
  | [.lst ys], [.int d] => ∃ ns : List Int, ys = ns.map D.int ∧ P (.int (maxOf ns d)) m2
  | _, _ => False
section
variable {ds : DS} {ms m : MS} {P : D → MS → Prop} {aa ak : DA}
def mMaxD (xs zs : List D) (m : MS) (P : D → MS → Prop) : Prop := match xs, zs with
  | [.lst ys], [.int d] => ∃ ns : List Int, ys = ns.map D.int ∧ P (.int (maxOf ns d)) m
  | _, _ => False
theorem w_maxDef (h : ArG aa ds ms fun xs m1 => ArG ak ds m1 fun zs m2 => mMaxD xs zs m2 P) : dMaxDef aa ak ds ms P := h
theorem w_mMaxD {ns : List Int} {d : Int} (h : P (.int (maxOf ns d)) m) : mMaxD [.lst (ns.map D.int)] [.int d] m P := ⟨ns, rfl, h⟩
end
section
variable {E : EN} {ds : DS} {ms : MS} {P : D → MS → Prop} {t : DTS} {de da db dc : DE} {g : DG} {aa : DA} {di : DI} {i : Nat} {f : MF} {ts : List DE}
theorem r_frzS (h : StG (dFrzS i t) E ds ms) : dFrzS i t E ds ms := h
theorem r_setIx (h : StG (dSetIx da db dc) E ds ms) : dSetIx da db dc E ds ms := h
theorem r_lcM {tt : DT} {te : DE} {vs : List Nat} (h : ExG (dLcM di g tt te vs) ds ms P) : dLcM di g tt te vs ds ms P := h
theorem r_m1 (h : ExG (dM1 f da db) ds ms P) : dM1 f da db ds ms P := h
theorem r_joined (h : ExG (dJoined ts) ds ms P) : dJoined ts ds ms P := h
theorem r_frz (h : ExG (dFrz de) ds ms P) : dFrz de ds ms P := h
theorem r_append (h : ExG (dAppend de aa) ds ms P) : dAppend de aa ds ms P := h
end
end DL
namespace DL
open PySem PySem.Spec PyProof.Rows L2 SX TL NumText
theorem cutS_S (l : List Nat) (lo hi : Option Int) : cutS (S l) lo hi = S (cutL l lo hi) := by
  unfold cutS cutL
  rw [S_len]
theorem cutL_to {α : Type} (l : List α) (i : Int) (h : 0 ≤ i) : cutL l none (some i) = l.take i.toNat := by
  obtain ⟨n, rfl⟩ := Int.eq_ofNat_of_zero_le h
  unfold cutL
  rw [show HT.sIx l.length l.length (some (n : Int)) = min n l.length from HT.sIx_nat _ _ n, HT.sIx_none, Int.toNat_natCast]
  show List.take (min n l.length - 0) (l.drop 0) = _
  rw [List.drop_zero, Nat.sub_zero, ← List.take_eq_take_min]
theorem S_app (a b : List Nat) : S a ++ S b = S (a ++ b) := S_cat a b
theorem lit (s : String) (l : List Nat) (h : tl (Str.ofString s) = l := by decide +kernel) : Str.ofString s = S l := ext_tl h
section
variable {E : EN} {ds : DS} {ms m : MS} {P : D → MS → Prop} {PA : List D → MS → Prop} {c : DT} {tb : DTS} {de : DE} {aa : DA} {n : Nat} {z : Str} {i j k : Int}
def mStrI (d : D) (m : MS) (P : List D → MS → Prop) : Prop := match d with
  | .str z => P (strD z) m
  | _ => False
theorem w_istr (h : ExG de ds ms fun d m => mStrI d m PA) : iStrD de ds ms PA := h
theorem w_mStrI (h : PA (strD z) m) : mStrI (.str z) m PA := h
def mRng3 (xs : List D) (m : MS) (P : List D → MS → Prop) : Prop := match xs with
  | [.int i, .int j, .int c] => ∃ n, RgC i j c n ∧ P (rngC i c n) m
  | _ => False
theorem w_irng3 (h : ArG aa ds ms fun xs m => mRng3 xs m PA) : iRange3 aa ds ms PA := h
end
section
variable {m : MS} {P : Bool → Prop} {b : Bool} {xs : List D} {i : Int}
theorem w_truB (h : P b) : truD (.bl b) m P := h
theorem w_truL (h : P (!xs.isEmpty)) : truD (.lst xs) m P := h
theorem w_truI (h : P (i != 0)) : truD (.int i) m P := h
end
end DL
namespace DL
open PySem PySem.Spec PyProof.Rows L2
def sLst (n : Nat) (gs : DGs) : DG := fun d ds P => match d with
  | .lst xs => xs.length = n ∧ gs xs ds P
  | _ => False
theorem w_slst {n : Nat} {gs : DGs} {xs : List D} {ds : DS} {PS : DS → Prop} (e : xs.length = n) (h : TgsG gs xs ds PS) : sLst n gs (.lst xs) ds PS := ⟨e, h⟩
end DL
namespace DL
open PySem PySem.W PySem.Calls PySem.PX
end DL
namespace DL
open PySem PySem.Spec PyProof.Rows L2
def getD (kvs : List (Str × Int)) (k : Str) : Option Int := (kvs.find? fun kv => decide (kv.1 = k)).map (·.2)
end DL
namespace DL
open PySem PySem.Spec PyProof.Rows L2
def mClear (x : D) (m : MS) (P : D → MS → Prop) : Prop := ∃ p xs, x = .opq (.ref p) ∧ look m p = some xs ∧ P .non (put m p [])
def dClear (dx : DE) : DE := fun ds ms P => dx ds ms fun x m => mClear x m P
section
variable {ds : DS} {ms m : MS} {P : D → MS → Prop} {de da db : DE} {di : DI} {g : DG} {tt : DT} {tk tv : DE} {vs : List Nat} {kvs : List (Str × Int)} {k : Str} {v : Int} {xs : List D} {a b : Int} {p : Addr} {d : D} {m' : MS}
theorem w_clear (h : ExG de ds ms fun x m => mClear x m P) : dClear de ds ms P := h
theorem w_mClear (e : look m p = some xs) (e2 : put m p [] = m') (h : P .non m') : mClear (.opq (.ref p)) m P := ⟨p, xs, rfl, e, by rw [e2]; exact h⟩
end
end DL
namespace DL
open PySem PySem.Spec PyProof.Rows L2
def dListR (da : DE) : DE := fun ds ms P => da ds ms fun d m => match d with
  | .int n => (0 ≤ n ∧ n ≤ 16777216) ∧ P (.lst (rng 0 n.toNat)) m
  | _ => False
def mListR (d : D) (m : MS) (P : D → MS → Prop) : Prop := match d with
  | .int n => (0 ≤ n ∧ n ≤ 16777216) ∧ P (.lst (rng 0 n.toNat)) m
  | _ => False
theorem w_listR {da : DE} {ds : DS} {ms : MS} {P : D → MS → Prop} (h : ExG da ds ms fun x m => mListR x m P) : dListR da ds ms P := h
mutual
inductive Der (ms : MS) : D → D → Prop
  | lst {xs ys : List D} : Ders ms xs ys → Der ms (.lst xs) (.lst ys)
  | tup {xs ys : List D} : Ders ms xs ys → Der ms (.tup xs) (.tup ys)
  | ref {p : Addr} {xs ys : List D} : look ms p = some xs → Ders ms xs ys → Der ms (.opq (.ref p)) (.lst ys)
  | same (d : D) : Der ms d d
inductive Ders (ms : MS) : List D → List D → Prop
  | nil : Ders ms [] []
  | cons {x y : D} {xs ys : List D} : Der ms x y → Ders ms xs ys → Ders ms (x :: xs) (y :: ys)
end
theorem Ders.same {ms : MS} : ∀ xs : List D, Ders ms xs xs
  | [] => .nil
  | x :: r => .cons (.same x) (Ders.same r)
/-- all that is known, with the lists that are written to as they stand now -/
def held (F H : Hp) (ms : MS) : Hp := fun b => if (look ms b).isSome then H b else F b
def dPickZ (n : Nat) (is : List Nat) (fx1 fx2 : FX) (di : DE) (aa : DA) (Z : ZD) : DE := fun ds ms P => di ds ms fun d m =>
  (d = .int 0 ∧ aa ds m fun xs m1 => xs.length = n ∧ fx1 (pick is xs) m1 P fun c ns ys m' => Z c ns ys ds m') ∨
  (d = .int 1 ∧ aa ds m fun xs m1 => xs.length = n ∧ fx2 (pick is xs) m1 P fun c ns ys m' => Z c ns ys ds m')
def mPickZ (n : Nat) (is : List Nat) (fx1 fx2 : FX) (aa : DA) (Z : ZD) (ds : DS) (P : D → MS → Prop) (d : D) (m : MS) : Prop :=
  (d = .int 0 ∧ aa ds m fun xs m1 => xs.length = n ∧ fx1 (pick is xs) m1 P fun c ns ys m' => Z c ns ys ds m') ∨
  (d = .int 1 ∧ aa ds m fun xs m1 => xs.length = n ∧ fx2 (pick is xs) m1 P fun c ns ys m' => Z c ns ys ds m')
def mPickA (n : Nat) (is : List Nat) (fx : FX) (Z : ZD) (ds : DS) (P : D → MS → Prop) (xs : List D) (m : MS) : Prop := xs.length = n ∧ fx (pick is xs) m P fun c ns ys m' => Z c ns ys ds m'
theorem w_pickZ {n : Nat} {is : List Nat} {fx1 fx2 : FX} {di : DE} {aa : DA} {Z : ZD} {ds : DS} {ms : MS} {P : D → MS → Prop} (h : ExG di ds ms fun d m => mPickZ n is fx1 fx2 aa Z ds P d m) : dPickZ n is fx1 fx2 di aa Z ds ms P := h
theorem w_mPickZ0 {n : Nat} {is : List Nat} {fx1 fx2 : FX} {aa : DA} {Z : ZD} {ds : DS} {m : MS} {P : D → MS → Prop} (h : ArG aa ds m fun xs m1 => mPickA n is fx1 Z ds P xs m1) : mPickZ n is fx1 fx2 aa Z ds P (.int 0) m := .inl ⟨rfl, h⟩
theorem w_mPickZ1 {n : Nat} {is : List Nat} {fx1 fx2 : FX} {aa : DA} {Z : ZD} {ds : DS} {m : MS} {P : D → MS → Prop} (h : ArG aa ds m fun xs m1 => mPickA n is fx2 Z ds P xs m1) : mPickZ n is fx1 fx2 aa Z ds P (.int 1) m := .inr ⟨rfl, h⟩
theorem w_mPickA {n : Nat} {is : List Nat} {fx : FX} {Z : ZD} {ds : DS} {P : D → MS → Prop} {xs ys : List D} {m : MS} (e1 : xs.length = n) (e : pick is xs = ys) (h : fx ys m P fun c ns zs m' => Z c ns zs ds m') : mPickA n is fx Z ds P xs m := ⟨e1, by rw [e]; exact h⟩
end DL
namespace DL
open PySem PySem.Spec PyProof.Rows L2
structure FirstAt (is : List Int) (v : Int) (j : Nat) : Prop where
  at_ : is[j]? = some v
  no : ∀ k, k < j → is[k]? ≠ some v
def dIndex (dx : DE) (aa : DA) : DE := fun ds ms P => dx ds ms fun x m1 => match x with
  | .lst a => aa ds m1 fun ys m2 => (match ys with
    | [y] => ∃ (is : List Int) (v : Int) (j : Nat), a = is.map D.int ∧ y = .int v ∧ FirstAt is v j ∧ P (.int (j : Int)) m2
    | _ => False)
  | _ => False
def mIndex (aa : DA) (ds : DS) (x : D) (m : MS) (P : D → MS → Prop) : Prop := match x with
  | .lst a => aa ds m fun ys m2 => (match ys with
    | [y] => ∃ (is : List Int) (v : Int) (j : Nat), a = is.map D.int ∧ y = .int v ∧ FirstAt is v j ∧ P (.int (j : Int)) m2
    | _ => False)
  | _ => False
def mIndexA (a : List D) (ys : List D) (m : MS) (P : D → MS → Prop) : Prop := match ys with
  | [y] => ∃ (is : List Int) (v : Int) (j : Nat), a = is.map D.int ∧ y = .int v ∧ FirstAt is v j ∧ P (.int (j : Int)) m
  | _ => False
theorem w_index {dx : DE} {aa : DA} {ds : DS} {ms : MS} {P : D → MS → Prop} (h : ExG dx ds ms fun x m => mIndex aa ds x m P) : dIndex dx aa ds ms P := h
theorem w_mIndex {aa : DA} {ds : DS} {a : List D} {m : MS} {P : D → MS → Prop} (h : ArG aa ds m fun ys m2 => mIndexA a ys m2 P) : mIndex aa ds (.lst a) m P := h
end DL
namespace DL
open PySem PySem.Spec PyProof.Rows L2
end DL
namespace DL
open PySem PySem.Spec PyProof.Rows L2
def dSortSet (da : DE) : DE := fun ds ms P => da ds ms fun d m => match d with
  | .lst xs => ∃ is : List Int, xs = is.map D.int ∧ is.length ≤ 60 ∧ ∀ js : List Int, js.Pairwise (· < ·) → (∀ k, k ∈ js ↔ k ∈ is) → P (.lst (js.map D.int)) m
  | _ => False
def mSortSet (d : D) (m : MS) (P : D → MS → Prop) : Prop := match d with
  | .lst xs => ∃ is : List Int, xs = is.map D.int ∧ is.length ≤ 60 ∧ ∀ js : List Int, js.Pairwise (· < ·) → (∀ k, k ∈ js ↔ k ∈ is) → P (.lst (js.map D.int)) m
  | _ => False
theorem w_sortSet {da : DE} {ds : DS} {ms : MS} {P : D → MS → Prop} (h : ExG da ds ms fun d m => mSortSet d m P) : dSortSet da ds ms P := h
end DL
namespace DL
open PySem PySem.Spec PyProof.Rows L2
def mRevL (x : D) (m : MS) (P : D → MS → Prop) : Prop := match asL x m with
  | some xs => P (.lst xs.reverse) m
  | none => False
def dRevL (de : DE) : DE := fun ds ms P => de ds ms fun x m => mRevL x m P
section
variable {ds : DS} {ms m : MS} {P : D → MS → Prop} {de : DE} {xs : List D}
theorem w_revL (h : ExG de ds ms fun x m => mRevL x m P) : dRevL de ds ms P := h
theorem w_mRevL (h : P (.lst xs.reverse) m) : mRevL (.lst xs) m P := h
end
/-- what keeps no promise (the call of itself where it is not needed) -/
def noFS : FS := fun _ _ _ => False
theorem FnG.none {P : Program} {w : World} {K : PySem.W.Frag} {mg : Str → Option Value} {base : Heap} {k : Nat} {f : Addr} {fd : FuncData} {ps : List Str} : FnG P w K mg base k f fd ps (spD K noFS) :=
  ⟨fun _ _ _ _ ⟨_, _, _, _, _, _, h, _⟩ => h.elim, fun _ _ _ _ _ _ _ _ _ _ _ _ ⟨_, _, _, _, _, _, h, _⟩ => h.elim⟩
end DL
namespace DL
open PySem PySem.Spec PyProof.Rows L2
mutual
inductive Vw (L : MS) : D → D → Prop
  | same {d : D} : Vw L d d
  | tup {xs ys : List D} : VwS L xs ys → Vw L (.tup xs) (.tup ys)
  | lst {p : Addr} {xs ys : List D} : (p, xs) ∈ L → VwS L xs ys → Vw L (.opq (.ref p)) (.lst ys)
inductive VwS (L : MS) : List D → List D → Prop
  | nil : VwS L [] []
  | cons {x y : D} {xs ys : List D} : Vw L x y → VwS L xs ys → VwS L (x :: xs) (y :: ys)
end
theorem VwS.same {L : MS} : ∀ xs : List D, VwS L xs xs
  | [] => .nil
  | _ :: r => .cons .same (VwS.same r)
open Classical in
/-- the lent lists too -/
noncomputable def lent (L : MS) (F H : Hp) : Hp := fun b => if ∃ q ∈ L, q.1 = b then H b else F b
open Classical in
/-- without them -/
noncomputable def back (L : MS) (F : Hp) : Hp := fun b => if ∃ q ∈ L, q.1 = b then none else F b
section
variable {K : PySem.W.Frag} {F H : Hp} {L ms0 : MS}
theorem lent_in {b : Addr} (h : ∃ q ∈ L, q.1 = b) : lent L F H b = H b := if_pos h
theorem lent_out {b : Addr} (h : ¬ ∃ q ∈ L, q.1 = b) : lent L F H b = F b := if_neg h
theorem back_in {b : Addr} (h : ∃ q ∈ L, q.1 = b) : back L F b = none := if_pos h
theorem back_out {b : Addr} (h : ¬ ∃ q ∈ L, q.1 = b) : back L F b = F b := if_neg h
theorem none_in (R : Rel K F H (L ++ ms0)) {b : Addr} (h : ∃ q ∈ L, q.1 = b) : F b = none := by
  obtain ⟨q, hq, rfl⟩ := h
  exact (R.mu q (List.mem_append_left _ hq)).1
theorem lent_sub (R : Rel K F H (L ++ ms0)) : Sub F (lent L F H) := fun b o e => by
  by_cases h : ∃ q ∈ L, q.1 = b
  · rw [none_in R h] at e; cases e
  · rw [lent_out h]; exact e
mutual
theorem DR.vw (R : Rel K F H (L ++ ms0)) : ∀ {d d' : D}, Vw L d d' → ∀ {v : V}, DR K F v d → DR K (lent L F H) v d'
  | _, _, .same, _, r => r.mono (lent_sub R)
  | _, _, .tup hs, _, r => by
    cases r with
    | tup hq rs => exact .tup ((lent_sub R).sqT hq) (DRs.vw R hs rs)
  | _, _, .lst (p := p) hm hs, _, r => by
    cases r
    obtain ⟨_, vs, h2, h3⟩ := R.mu _ (List.mem_append_left _ hm)
    exact .lst (by rw [lent_in ⟨_, hm, rfl⟩]; exact h2) (DRs.vw R hs h3)
theorem DRs.vw (R : Rel K F H (L ++ ms0)) : ∀ {ds ds' : List D}, VwS L ds ds' → ∀ {vs : List V}, DRs K F vs ds → DRs K (lent L F H) vs ds'
  | _, _, .nil, _, r => by cases r; exact .nil
  | _, _, .cons h hs, _, r => by
    cases r with
    | cons r1 r2 => exact .cons (DR.vw R h r1) (DRs.vw R hs r2)
end
theorem out_of (R : Rel K F H (L ++ ms0)) {q : Addr × List D} (hq : q ∈ ms0) : ¬ ∃ r ∈ L, r.1 = q.1 := by
  rintro ⟨r, hr, e⟩
  have nd := R.nd
  rw [List.map_append] at nd
  exact (List.nodup_append.mp nd).2.2 _ (List.mem_map_of_mem hr) _ (List.mem_map_of_mem hq) e
theorem relLent (R : Rel K F H (L ++ ms0)) : Rel K (lent L F H) H ms0 ∧ Stp F H (L ++ ms0) (lent L F H) H ms0 := by
  refine ⟨⟨fun b o e => ?_, fun q hq => ?_, ?_, R.one.mono (lent_sub R)⟩, ⟨lent_sub R, fun _ _ h _ _ => h, fun a o e => ?_, fun q hq => .inl ⟨q, List.mem_append_right _ hq, rfl⟩⟩⟩
  · by_cases h : ∃ q ∈ L, q.1 = b
    · rw [lent_in h] at e; exact e
    · rw [lent_out h] at e; exact R.sub b o e
  · obtain ⟨h1, vs, h2, h3⟩ := R.mu q (List.mem_append_right _ hq)
    exact ⟨by rw [lent_out (out_of R hq)]; exact h1, vs, h2, h3.mono (lent_sub R)⟩
  · have nd := R.nd
    rw [List.map_append] at nd
    exact (List.nodup_append.mp nd).2.1
  · by_cases h : ∃ q ∈ L, q.1 = a
    · obtain ⟨q, hq, e2⟩ := h
      exact .inr (.inr ⟨q, List.mem_append_left _ hq, e2⟩)
    · rw [lent_out h] at e; exact .inl e
theorem relBack {F2 H2 : Hp} {m : MS} {v : V} {d : D} (R : Rel K F H (L ++ ms0)) (R2 : Rel K F2 H2 m) (s2 : Stp (lent L F H) H ms0 F2 H2 m) (fd : flat d = true) (fm : flatM m) (r2 : DR K F2 v d) :
    Rel K (back L F2) H2 (L ++ m) ∧ Stp F H (L ++ ms0) (back L F2) H2 (L ++ m) ∧ DR K (back L F2) v d := by
  have at_ : ∀ q ∈ L, ∃ vs, F2 q.1 = some (.lst vs) ∧ DRs K F vs q.2 := fun q hq => by
    obtain ⟨_, vs, h2, h3⟩ := R.mu q (List.mem_append_left _ hq)
    exact ⟨vs, s2.sub q.1 _ (by rw [lent_in ⟨q, hq, rfl⟩]; exact h2), h3⟩
  have sub3 : Sub F (back L F2) := fun b o hb => by
    by_cases h : ∃ q ∈ L, q.1 = b
    · rw [none_in R h] at hb; cases hb
    · rw [back_out h]
      exact s2.sub b o (by rw [lent_out h]; exact hb)
  have keepT : ∀ b u, F2 b = some u → (∀ vs, u ≠ .lst vs) → back L F2 b = some u := fun b u hb nl => by
    by_cases h : ∃ q ∈ L, q.1 = b
    · obtain ⟨q, hq, rfl⟩ := h
      obtain ⟨vs, e, _⟩ := at_ q hq
      rw [e] at hb
      cases hb
      exact absurd rfl (nl vs)
    · rw [back_out h]; exact hb
  have ee : ∀ b ws, (F2 b = some (.tup ws) → back L F2 b = some (.tup ws)) ∧ ∀ o, F2 b = some (.frz o (.tup ws)) → back L F2 b = some (.frz o (.tup ws)) :=
    fun b ws => ⟨fun hb => keepT b _ hb (fun vs z => by cases z), fun o hb => keepT b _ hb (fun vs z => by cases z)⟩
  refine ⟨⟨fun b o hb => ?_, fun q hq => ?_, ?_, R.one.mono sub3⟩, ⟨sub3, fun a o k1 k2 k3 => ?_, fun a o k1 => ?_, fun q hq => ?_⟩, r2.flat ee fd⟩
  · by_cases h : ∃ q ∈ L, q.1 = b
    · rw [back_in h] at hb; cases hb
    · rw [back_out h] at hb; exact R2.sub b o hb
  · rcases List.mem_append.mp hq with hq | hq
    · obtain ⟨vs, e, rs⟩ := at_ q hq
      exact ⟨back_in ⟨q, hq, rfl⟩, vs, R2.sub _ _ e, rs.mono sub3⟩
    · obtain ⟨y1, us, y2, y3⟩ := R2.mu q hq
      refine ⟨?_, us, y2, y3.flat ee (fm q hq)⟩
      by_cases h : ∃ r ∈ L, r.1 = q.1
      · exact back_in h
      · rw [back_out h]; exact y1
  · rw [List.map_append, List.nodup_append]
    have nd := R.nd
    rw [List.map_append] at nd
    refine ⟨(List.nodup_append.mp nd).1, R2.nd, fun a ha b hb e => ?_⟩
    obtain ⟨q, hq, rfl⟩ := List.mem_map.mp ha
    obtain ⟨r, hr, rfl⟩ := List.mem_map.mp hb
    obtain ⟨vs, e1, _⟩ := at_ q hq
    obtain ⟨y1, _⟩ := R2.mu r hr
    rw [e, y1] at e1
    cases e1
  · have hn : ¬ ∃ q ∈ L, q.1 = a := fun ⟨q, hq, z⟩ => k3 q (List.mem_append_left _ hq) z
    exact s2.keep a o k1 (by rw [lent_out hn]; exact k2) fun q hq => k3 q (List.mem_append_right _ hq)
  · by_cases h : ∃ q ∈ L, q.1 = a
    · rw [back_in h] at k1; cases k1
    · rw [back_out h] at k1
      rcases s2.newF a o k1 with z | z | ⟨q, hq, z⟩
      · rw [lent_out h] at z; exact .inl z
      · exact .inr (.inl z)
      · exact .inr (.inr ⟨q, List.mem_append_right _ hq, z⟩)
  · rcases List.mem_append.mp hq with hq | hq
    · exact .inl ⟨q, List.mem_append_left _ hq, rfl⟩
    · rcases s2.newM q hq with ⟨q2, hq2, z⟩ | z | ⟨o, z⟩
      · exact .inl ⟨q2, List.mem_append_right _ hq2, z⟩
      · exact .inr (.inl z)
      · by_cases h : ∃ r ∈ L, r.1 = q.1
        · obtain ⟨r, hr, e⟩ := h
          exact .inl ⟨r, List.mem_append_left _ hr, e⟩
        · rw [lent_out h] at z; exact .inr (.inr ⟨o, z⟩)
end
/-- a slot's lists are lent to an expression that tells flat data -/
def dView (i : Nat) (de : DE) : DE := fun ds ms P => ∃ (L ms0 : MS) (d d' : D), ms = L ++ ms0 ∧ slot ds i = some d ∧ Vw L d d' ∧ de (setSlot ds i d') ms0 fun r m => flat r = true ∧ flatM m ∧ P r (L ++ m)
theorem lift_view {K : PySem.W.Frag} {i : Nat} {de : DE} : ∀ σ H Q, lift K (dView i de) σ H Q → lift K de σ H Q := fun σ H Q ⟨F, ds, ms, P, R, S, h1, h2⟩ => by
  obtain ⟨L, ms0, d, d', rfl, e, vw, h1⟩ := h1
  obtain ⟨v, hv, hr⟩ := S.get e
  obtain ⟨R1, s1⟩ := relLent R
  refine ⟨_, _, _, _, R1, setSlot_σ (S.mono s1.sub) hv (hr.vw R vw), h1, fun r m u F2 H2 hp R2 s2 r2 => ?_⟩
  obtain ⟨fd, fm, hp⟩ := hp
  obtain ⟨R3, s3, r3⟩ := relBack R R2 s2 fd fm r2
  exact h2 r (L ++ m) u _ H2 hp R3 s3 r3
theorem pdt_cmpV {X : Cx} {a b : Expr} {da db : DE} {pos : Pos} {i : Nat} {op : CmpOp} {r : R2} {f : OF} (ho : OpR X (compareOp op) r) (hf : OpD X.K r f) (ha : PD X a da) (hb : PD X b db) (hm : behindInMarks op b = false := by first | exact nomark _ | rfl) : PDT X (.Compare a [op] [b] pos) (dTest (dView i (dOp f da db))) := by
  refine ptImp (pt_cmpR ho ha hb hm) fun σ H Q h => ?_
  obtain ⟨F, ds, ms, P, R, S, h1, h2⟩ := h
  refine lift_op hf σ H _ (lift_view σ H _ ⟨F, ds, ms, _, R, S, h1, fun d m v F1 H1 p1 R1 s1 r1 => ?_⟩)
  cases d with
  | bl b => cases r1; exact ⟨b, rfl, h2 b m F1 H1 p1 R1 s1⟩
  | _ => exact p1.elim
theorem w_view {i : Nat} {de : DE} {ds ds' : DS} {ms : MS} {P : D → MS → Prop} (L ms0 : MS) {d d' : D} (e : ms = L ++ ms0) (e1 : slot ds i = some d) (vw : Vw L d d') (e2 : setSlot ds i d' = ds') (h : ExG de ds' ms0 fun r m => flat r = true ∧ flatM m ∧ P r (L ++ m)) : dView i de ds ms P :=
  ⟨L, ms0, d, d', e, e1, vw, by rw [e2]; exact h⟩
/-- ahead of a statement a slot's lists are made fast -/
def dViewS (i : Nat) (t : DTS) : DTS := fun E ds ms => ∃ (L ms0 : MS) (d d' : D), ms = L ++ ms0 ∧ slot ds i = some d ∧ Vw L d d' ∧ t E (setSlot ds i d') ms0
theorem liftS_view {K : PySem.W.Frag} {t : DTS} {i : Nat} : ∀ D σ H, liftS K (dViewS i t) D σ H → liftS K t D σ H := fun D σ H ⟨F, ds, ms, E, R, S, h, n, r, k, q⟩ => by
  obtain ⟨L, ms0, d, d', rfl, e, vw, h⟩ := h
  obtain ⟨v, hv, hr⟩ := S.get e
  obtain ⟨z1, z2⟩ := relLent R
  exact ⟨_, _, _, E, z1, setSlot_σ (S.mono z2.sub) hv (hr.vw R vw), h, fun ds' m' σ' F' H' h' R' s' S' => n ds' m' σ' F' H' h' R' (z2.trans s') S', fun d m' v' F' H' h' R' s' r' => r d m' v' F' H' h' R' (z2.trans s') r',
    fun ds' m' σ' F' H' h' R' s' S' => k ds' m' σ' F' H' h' R' (z2.trans s') S', fun ds' m' σ' F' H' h' R' s' S' => q ds' m' σ' F' H' h' R' (z2.trans s') S'⟩
theorem pds_view {X : Cx} {st : Stmt} {t : DTS} {i : Nat} (h : PDS X st t) : PDS X st (dViewS i t) := psImp h liftS_view
theorem w_viewS {t : DTS} {E : EN} {ds ds' : DS} {ms : MS} {i : Nat} (L ms0 : MS) {d d' : D} (e : ms = L ++ ms0) (e1 : slot ds i = some d) (vw : Vw L d d') (e2 : setSlot ds i d' = ds') (h : StG t E ds' ms0) : dViewS i t E ds ms :=
  ⟨L, ms0, d, d', e, e1, vw, by rw [e2]; exact h⟩
/-- what an expression tells is made fast, its lists too -/
def dViewE (de : DE) : DE := fun ds ms P => de ds ms fun d m => ∃ (L ms0 : MS) (d' : D), m = L ++ ms0 ∧ Vw L d d' ∧ P d' ms0
theorem pd_viewE {X : Cx} {e : Expr} {de : DE} (h : PD X e de) : PD X e (dViewE de) := peImp h fun σ H Q ⟨F, ds, ms, P, R, S, h1, h2⟩ =>
  ⟨F, ds, ms, _, R, S, h1, fun d m v F1 H1 p1 R1 s1 r1 => by
    obtain ⟨L, ms0, d', rfl, vw, p1⟩ := p1
    obtain ⟨z1, z2⟩ := relLent R1
    exact h2 d' ms0 v _ _ p1 z1 (s1.trans z2) (r1.vw R1 vw)⟩
theorem w_viewE {de : DE} {ds : DS} {ms : MS} {P : D → MS → Prop} (h : ExG de ds ms fun d m => ∃ (L ms0 : MS) (d' : D), m = L ++ ms0 ∧ Vw L d d' ∧ P d' ms0) : dViewE de ds ms P := h
end DL
namespace DL
open PySem PySem.Spec PyProof.Rows L2
section
variable {K : PySem.W.Frag} {F1 H1 F2 H2 : Hp} {ms m2 : MS} {p : Addr} {xs : List D} {vs : List V}
theorem relPark (R : Rel K F1 H1 ms) : Rel K F1 H1 (drp ms p) := ⟨R.sub, fun q hq => R.mu q (drp_sub q hq), drp_nd R.nd, R.one⟩
theorem unpark (R1 : Rel K F1 H1 ms) (e1 : look ms p = some xs) (hF : F1 p = none) (hH : H1 p = some (.lst vs)) (rs : DRs K F1 vs xs) (s : Stp F1 H1 (drp ms p) F2 H2 m2) (R2 : Rel K F2 H2 m2) :
    Rel K F2 H2 ((p, xs) :: m2) ∧ Stp F1 H1 ms F2 H2 ((p, xs) :: m2) := by
  have off := drp_ne (p := p) R1.nd
  have h2 : H2 p = some (.lst vs) := s.keep p _ hH hF off
  have f2 : F2 p = none := by
    cases e : F2 p with
    | none => rfl
    | some u =>
      rcases s.newF p u e with z | z | ⟨q, hq, z⟩
      · rw [hF] at z; cases z
      · rw [hH] at z; cases z
      · exact absurd z (off q hq)
  refine ⟨⟨R2.sub, fun q hq => ?_, ?_, R2.one⟩, ⟨s.sub, fun a o k1 k2 k3 => s.keep a o k1 k2 fun q hq => k3 q (drp_sub q hq), fun a o h => ?_, fun q hq => ?_⟩⟩
  · rcases List.mem_cons.mp hq with rfl | hq
    · exact ⟨f2, vs, h2, rs.mono s.sub⟩
    · exact R2.mu q hq
  · rw [List.map_cons, List.nodup_cons]
    refine ⟨fun hm => ?_, R2.nd⟩
    obtain ⟨q, hq, eq⟩ := List.mem_map.mp hm
    have eq : q.1 = p := eq
    rcases s.newM q hq with ⟨q2, hq2, z⟩ | z | ⟨o, z⟩
    · exact off q2 hq2 (z.trans eq)
    · rw [eq, hH] at z; cases z
    · rw [eq, hF] at z; cases z
  · rcases s.newF a o h with z | z | ⟨q, hq, z⟩
    · exact .inl z
    · exact .inr (.inl z)
    · exact .inr (.inr ⟨q, drp_sub q hq, z⟩)
  · rcases List.mem_cons.mp hq with rfl | hq
    · exact .inl ⟨_, look_mem e1, rfl⟩
    · rcases s.newM q hq with ⟨q2, hq2, z⟩ | z | z
      · exact .inl ⟨q2, drp_sub q2 hq2, z⟩
      · exact .inr (.inl z)
      · exact .inr (.inr z)
end
end DL
namespace DL
open PySem PySem.Spec PyProof.Rows L2
end DL
namespace DL
open PySem PySem.Spec PyProof.Rows L2
def orB (m1 m2 : List (Str × Bool)) (c : Str) : Option Bool := match m1.lookup c, m2.lookup c with
  | some b1, some b2 => some (b1 || b2)
  | _, _ => none
def mIsET (m1 m2 : List (Str × Bool)) (d : D) (m : MS) (P : D → MS → Prop) : Prop := match d with
  | .exc c _ _ => ∃ b, orB m1 m2 c = some b ∧ P (.bl b) m
  | _ => False
def dIsET (m1 m2 : List (Str × Bool)) (de : DE) : DE := fun ds ms P => de ds ms fun d m => mIsET m1 m2 d m P
def rIsET (K : PySem.W.Frag) : List V → Hp → VK → Prop := fun xs H Q => ∃ (a C tp : Addr) (d : Option Addr) (fs : List (Str × V)) (v1 v2 : V) (w1 w2 : Value) (b : Bool), xs = [.ref a, .ref tp] ∧ H a = some (ExH (.ref C) d a) ∧
  (d = none ∨ ∃ dx, d = some dx ∧ H dx = some (.xd fs)) ∧ ExcC K C ∧ H tp = some (.tup [v1, v2]) ∧ (∀ u, RelV v1 u → u = w1) ∧ (∀ u, RelV v2 u → u = w2) ∧ PySem.W.kitAny K (.ref C) [w1, w2] = some b ∧ Q (.bl b) H
theorem call_isET {X : Cx} : CallR X (.builtin "isinstance") (rIsET X.K) := by
  intro pins s σ H xs us Q I r h
  obtain ⟨a, C, tp, d, fs, v1, v2, w1, w2, b, rfl, ha, hd, hC, hT, e1, e2, e, q⟩ := h
  match us, r with
  | [_, _], .cons (.refl _) (.cons (.refl _) .nil) =>
    obtain ⟨⟨oe, fv, ho, hz, hf⟩, _, _⟩ := I.hok a _ ha
    obtain ⟨_, its, rv, o, g1, g2, n, g3⟩ := (show ObjOk X.prog X.w H s.heap tp (.tup [v1, v2]) from I.hok tp _ hT)
    obtain ⟨oc, od, dt, sl⟩ := o
    simp only at g2 g3
    subst g2 g3
    match its, rv with
    | [u1, u2], .cons r1 (.cons r2 .nil) =>
      have z1 := e1 u1 r1
      have z2 := e2 u2 r2
      subst z1 z2
      have nc : PySem.W.notCls oe = true := by unfold PySem.W.notCls; rw [hf]
      have go : ∀ od, PySem.W.InstAt s.heap a oe C od → wpAny (model X.prog X.w) X.A (call (.builtin "isinstance") [.ref a, .ref tp]) (EP X pins σ Q) X.xe s := fun od J => by
        have known : (PySem.W.clsIn X.K C).isSome = true := by
          obtain ⟨cd, hc, _⟩ := PySem.W.any_some hC.hd
          exact Option.isSome_iff_exists.mpr ⟨cd, hc⟩
        exact PySem.W.kia_tup (PySem.W.kitx_exc known hC.hg hC.hk hC.hs hC.ha hC.hn hC.ht hC.hm) I.kIn J g1 e (fun z => nomatch z) fun tk => ⟨.bl b, H, I.kept (t' := tk) fun _ _ z => z, rfl, q⟩
      rcases hd with rfl | ⟨dx, rfl, hx⟩
      · exact go none ⟨ho, hz.1, nc, by rw [hz.2]; trivial⟩
      · obtain ⟨mA, hns, _⟩ := (show ObjOk X.prog X.w H s.heap dx (.xd fs) from I.hok dx _ hx)
        obtain ⟨od, hod, _⟩ := lookIn_ns hns
        exact go (some od) ⟨ho, hz.1, nc, by rw [hz.2]; exact hod⟩
theorem pd_isET {X : Cx} {e : Expr} {de : DE} {x y : Str} {tx} {p p1 p2 tpos pos : Pos} {w1 w2 : Value} {v1 v2 : V} {m1 m2 : List (Str × Bool)} (h1 : MlK X.K w1 m1) (h2 : MlK X.K w2 m2) (r1 : ∀ u, RelV v1 u → u = w1) (r2 : ∀ u, RelV v2 u → u = w2)
    (n1 : PE X (.Name x p1) (tC v1)) (n2 : PE X (.Name y p2) (tC v2)) (hg : Gl X "isinstance") (hm : X.mg "isinstance" = none) (h : PD X e de)
    (he : starEach [e, .Tuple [.Name x p1, .Name y p2] tx tpos] X.env = (false, eval e X.env) :: starEach [.Tuple [.Name x p1, .Name y p2] tx tpos] X.env := by rfl)
    (hpl : (backTo pos (starEach [.Tuple [.Name x p1, .Name y p2] tx tpos] X.env)).any (·.1) = false := by rfl) :
    PD X (.Call (.Name "isinstance" p) [e, .Tuple [.Name x p1, .Name y p2] tx tpos] [] pos) (dIsET m1 m2 de) :=
  peImp (pe_callB call_isET hg hm (by decide +kernel) (pa_cons h (pa_cons (pe_tup (pa_cons n1 (pa_cons n2 pa_nil))) pa_nil) he) (by decide) (by decide) he hpl) fun σ H Q ⟨F, ds, ms, P, R, S, d1, d2⟩ =>
    ⟨F, ds, ms, _, R, S, d1, fun d m v F1 H1 k1 R1 s1 q1 => by
      match d, k1, q1 with
      | .exc c ns ys, ⟨b, ob, k2⟩, .exc (a := a) (d := dd) (vs := vs) h0 ha hx hs =>
        unfold orB at ob
        cases l1 : m1.lookup c with
        | none => rw [l1] at ob; cases ob
        | some b1 =>
          cases l2 : m2.lookup c with
          | none => rw [l1, l2] at ob; cases ob
          | some b2 =>
            rw [l1, l2] at ob
            cases ob
            obtain ⟨C, rfl, hC, t1⟩ := h1 c b1 _ l1 h0
            obtain ⟨C', eC, _, t2⟩ := h2 c b2 _ l2 h0
            cases eC
            refine ⟨(show 2 ≤ sizeLine by decide), fun tp htp => ⟨a, C, tp, dd, ns.zip vs, v1, v2, w1, w2, b1 || b2, rfl, Sub.new htp _ _ (R1.sub _ _ ha), ?_, hC, upd_same, r1, r2, ?_, ?_⟩⟩
            · rcases hx with ⟨z, _, _⟩ | ⟨dx, z, z2, _⟩
              · exact .inl z
              · exact .inr ⟨dx, z, Sub.new htp _ _ (R1.sub _ _ z2)⟩
            · refine kitAny_cons t1 (fun z => ?_) fun z => by rw [z]; rfl
              subst z
              exact kitAny_cons t2 (fun z => by subst z; exact kitAny_nil) fun z => by rw [z]; rfl
            · exact d2 _ m _ (upd F1 tp (.tup [v1, v2])) _ k2 (R1.new htp) (s1.trans (Stp.new R1 htp)) (.bl _)⟩
section
variable {ds : DS} {ms m : MS} {P : D → MS → Prop} {de : DE} {m1 m2 : List (Str × Bool)} {c : Str} {ns : List Str} {xs : List D} {b : Bool}
theorem w_isET (h : ExG de ds ms fun d m => mIsET m1 m2 d m P) : dIsET m1 m2 de ds ms P := h
theorem w_mIsET (e : orB m1 m2 c = some b) (h : P (.bl b) m) : mIsET m1 m2 (.exc c ns xs) m P := ⟨b, e, h⟩
end
/-- what is set apart meanwhile comes back, and nothing has come to its place -/
def EN.parkN (E : EN) (p : Addr) (xs : List D) : EN := { nx := fun ds m => (∀ e ∈ m, e.1 ≠ p) → E.nx ds ((p, xs) :: m), rt := fun d m => (∀ e ∈ m, e.1 ≠ p) → E.rt d ((p, xs) :: m), bk := fun ds m => (∀ e ∈ m, e.1 ≠ p) → E.bk ds ((p, xs) :: m), ct := fun ds m => (∀ e ∈ m, e.1 ≠ p) → E.ct ds ((p, xs) :: m) }
theorem offHead {p : Addr} {xs : List D} {m : MS} (h : (((p, xs) :: m).map (·.1)).Nodup) : ∀ e ∈ m, e.1 ≠ p := fun e he z => by
  rw [List.map_cons, List.nodup_cons] at h
  exact h.1 (by show p ∈ _; rw [← z]; exact List.mem_map_of_mem he)
def dForE (de : DE) (g : DG) (tb : DTS) : DTS := fun E ds ms => de ds ms fun d m => ∃ p xs, d = .opq (.ref p) ∧ look m p = some xs ∧ loopD g tb (E.parkN p xs) xs ds (drp m p)
def dLcE (de : DE) (g : DG) (tt : DT) (te : DE) (vs : List Nat) : DE := fun ds ms P => de ds ms fun d m => ∃ p xs, d = .opq (.ref p) ∧ look m p = some xs ∧ compD g tt te (wipeD ds vs) xs [] (drp m p) fun ys m' => (∀ e ∈ m', e.1 ≠ p) → P (.lst ys) ((p, xs) :: m')
section
variable {K : PySem.W.Frag} {dg : DG} {tb : DTS} {tt : DT} {te de : DE} {g : TG} {us vs : List Nat}
theorem lift_forE (hg : TgD K g dg us) : ∀ D σ H, liftS K (dForE de dg tb) D σ H → tFor (iList K (lift K de)) g (liftS K tb) D σ H := fun D σ H ⟨F, ds, ms, E, R, S, h0, n, r, k, q⟩ => by
  refine ⟨F, ds, ms, _, R, S, h0, fun d m v F1 H1 p1 R1 s1 r1 => ?_⟩
  obtain ⟨p, xs, rfl, e1, h⟩ := p1
  cases r1
  obtain ⟨hF, vs, hH, rs⟩ := R1.look e1
  refine ⟨p, rfl, ⟨vs, SqL.of hH⟩, ?_⟩
  have off := drp_ne (p := p) R1.nd
  refine for_it (walk_list (K := K) (a := p) (xs := vs)) (fun j σ1 H2 => ∃ F2 ds2 m2, Rel K F2 H2 m2 ∧ Stp F1 H1 (drp m p) F2 H2 m2 ∧ Sl K F2 σ1 ds2 ∧ loopD dg tb (E.parkN p xs) (xs.drop j) ds2 m2)
    ⟨F1, ds, drp m p, relPark R1, Stp.refl, S.mono s1.sub, h⟩ (fun j σ1 H2 _ ⟨F2, ds2, m2, R2, s2, S2, h2⟩ => SqL.of (s2.keep p _ hH hF off)) ?_ ?_
  · rintro j x σ1 H2 H3 hj ⟨F2, ds2, m2, R2, s2, S2, h2⟩ ⟨rfl, hx⟩
    obtain ⟨d, hd, rx⟩ := rs.getV hx
    rw [drop_get hd] at h2
    refine hg.snd x σ1 F2 H3 _ d ds2 _ R2.sub S2 (rx.mono s2.sub) h2 fun ds3 σ3 h3 S3 => ?_
    refine ⟨F2, ds3, m2, _, R2, S3, h3, ?_, ?_, ?_, ?_⟩
    · exact fun ds4 m4 σ4 F4 H4 h4 R4 s4 S4 => ⟨F4, ds4, m4, R4, s2.trans s4, S4, h4⟩
    · intro d4 m4 v4 F4 H4 h4 R4 s4 r4
      obtain ⟨R5, s5⟩ := unpark R1 e1 hF hH rs (s2.trans s4) R4
      exact r d4 _ v4 F4 H4 (h4 (offHead R5.nd)) R5 (s1.trans s5) r4
    · intro ds4 m4 σ4 F4 H4 h4 R4 s4 S4
      obtain ⟨R5, s5⟩ := unpark R1 e1 hF hH rs (s2.trans s4) R4
      exact n ds4 _ σ4 F4 H4 (h4 (offHead R5.nd)) R5 (s1.trans s5) S4
    · exact fun ds4 m4 σ4 F4 H4 h4 R4 s4 S4 => ⟨F4, ds4, m4, R4, s2.trans s4, S4, h4⟩
  · rintro σ1 H2 ⟨F2, ds2, m2, R2, s2, S2, h2⟩
    rw [rs.length, List.drop_length] at h2
    obtain ⟨R5, s5⟩ := unpark R1 e1 hF hH rs s2 R2
    exact n ds2 _ σ1 F2 H2 (h2 (offHead R5.nd)) R5 (s1.trans s5) S2
theorem pds_forE {X : Cx} {tg iter : Expr} {body : List Stmt} {pos : Pos} (hc : X.calm = true) (hi : PD X iter de) (hg : PG X tg g) (hd : TgD X.K g dg us) (hb : PDSs X body tb) (hp : PassesOwn (model X.prog X.w) X.A X.env X.xe := by exact PassesOwn.never)
    (hs : ∀ x, foldedSetIterable iter X.env x = pure x := by intro _; rfl) : PDS X (.For tg iter body [] pos) (dForE de dg tb) := psImp (ps_for hp hc (pi_list hi) hg hb hs) (lift_forE hd)
theorem lift_lcE (hg : TgD K g dg vs) (hm : MonG g) : ∀ σ H Q, lift K (dLcE de dg tt te vs) σ H Q → tLc (iList K (lift K de)) g (liftT K tt) (lift K te) vs σ H Q := fun σ H Q ⟨F, ds, ms, P, R, S, h0, q⟩ => by
  refine ⟨F, ds, ms, _, R, S, h0, fun d m v F0 H0 p1 R0 s0 r1 => ?_⟩
  obtain ⟨p, xs, rfl, e1, h⟩ := p1
  cases r1
  obtain ⟨hF0, vs0, hH0, rs⟩ := R0.look e1
  refine ⟨p, rfl, ⟨vs0, SqL.of hH0⟩, fun L hL => ?_⟩
  have off := drp_ne (p := p) R0.nd
  have Rp := relPark (p := p) R0
  have nL : F0 L = none := R0.sub.none hL
  have nM : ∀ r ∈ drp m p, r.1 ≠ L := fun r hr => by
    obtain ⟨_, ws, h2, _⟩ := Rp.mu r hr
    exact ne_of_none h2 hL
  refine lc_it (walk_list (K := K) (a := p) (xs := vs0)) (fun j H1 => ∃ F1 m1 acc av, Rel K F1 H1 m1 ∧ Stp F0 H0 (drp m p) F1 H1 m1 ∧ H1 L = some (.lst av) ∧ F1 L = none ∧ (∀ r ∈ m1, r.1 ≠ L) ∧ DRs K F1 av acc ∧ compD dg tt te (wipeD ds vs) (xs.drop j) acc m1 fun ys m' => (∀ e ∈ m', e.1 ≠ p) → P (.lst ys) ((p, xs) :: m'))
    ⟨F0, drp m p, [], [], Rp.lay hL, ⟨Sub.refl F0, fun a u h1 _ _ => by rw [upd_ne (ne_of_none h1 hL)]; exact h1, fun _ _ h => .inl h, fun r hr => .inl ⟨r, hr, rfl⟩⟩, upd_same, nL, nM, .nil, h⟩
    (fun j H1 _ ⟨F1, m1, acc, av, R1, s1, _⟩ => SqL.of (s1.keep p _ hH0 hF0 off)) ?_ ?_
  · rintro j x H1 H2 hj ⟨F1, m1, acc, av, R1, s1, hD, hF, hM, ra, h1⟩ ⟨rfl, hx⟩
    obtain ⟨d, hd, rx⟩ := rs.getV hx
    rw [drop_get hd] at h1
    have hw := hg.wip x (L2.wipe σ vs) H2 _ (hg.snd x (L2.wipe σ vs) F1 H2 (fun σ2 H3 => H3 = H2 ∧ ∃ ds2, Sl K F1 σ2 ds2 ∧ tt ds2 m1 fun b m3 => if b = true then te ds2 m3 fun y m4 => acc.length < sizeLine ∧ compD dg tt te (wipeD ds vs) (xs.drop (j + 1)) (acc ++ [y]) m4 fun ys m' => (∀ e ∈ m', e.1 ≠ p) → P (.lst ys) ((p, xs) :: m') else compD dg tt te (wipeD ds vs) (xs.drop (j + 1)) acc m3 fun ys m' => (∀ e ∈ m', e.1 ≠ p) → P (.lst ys) ((p, xs) :: m')) d (wipeD ds vs) _ R1.sub ((S.wipe vs).mono (s0.sub.trans s1.sub)) (rx.mono s1.sub) h1 fun ds2 σ2 h2 S2 => ⟨rfl, ds2, S2, h2⟩)
    refine hm _ _ _ _ _ ?_ hw
    rintro σ2 H3 ⟨e2, rfl, ds2, S2, h2⟩
    refine ⟨e2.trans (wipe_wipe fun u hu => hu), F1, ds2, m1, _, R1, S2, h2, fun b m4 F4 H4 p4 R4 s4 => ?_⟩
    obtain ⟨hD4, hF4, hM4⟩ := s4.kp hD hF hM
    cases b with
    | false =>
      rw [if_neg Bool.false_ne_true] at p4 ⊢
      exact ⟨F4, m4, acc, av, R4, s1.trans s4, hD4, hF4, hM4, ra.mono s4.sub, p4⟩
    | true =>
      rw [if_pos rfl] at p4 ⊢
      refine ⟨F4, ds2, m4, _, R4, S2.mono s4.sub, p4, fun y m5 v5 F5 H5 p5 R5 s5 r5 => ?_⟩
      obtain ⟨hD5, hF5, hM5⟩ := s5.kp hD4 hF4 hM4
      have ra5 := (ra.mono s4.sub).mono s5.sub
      have s05 := (s1.trans s4).trans s5
      refine ⟨av, hD5, by rw [ra.length]; exact p5.1, F5, m5, acc ++ [y], av ++ [v5], ⟨fun b u z => ?_, fun r hr => ?_, R5.nd, R5.one⟩, ⟨s05.sub, fun a u z1 z2 z3 => by rw [upd_ne (ne_of_none z1 hL)]; exact s05.keep a u z1 z2 z3, s05.newF, s05.newM⟩, upd_same, hF5, hM5, ra5.append (.cons r5 .nil), p5.2⟩
      · rw [upd_ne (fun w => by rw [w, hF5] at z; cases z)]; exact R5.sub b u z
      · obtain ⟨z1, ws, z2, z3⟩ := R5.mu r hr
        exact ⟨z1, ws, by rw [upd_ne (hM5 r hr)]; exact z2, z3⟩
  · rintro H1 ⟨F1, m1, acc, av, R1, s1, hD, hF, hM, ra, h1⟩
    rw [rs.length, List.drop_length] at h1
    have sF : Sub F1 (upd F1 L (.lst av)) := Sub.new hF
    have R6 : Rel K (upd F1 L (.lst av)) H1 m1 := by
      refine ⟨fun b u z => ?_, fun r hr => ?_, R1.nd, R1.one.mono sF⟩
      · by_cases hb : b = L
        · subst hb; rw [upd_same] at z; rw [hD]; exact z
        · rw [upd_ne hb] at z; exact R1.sub b u z
      · obtain ⟨z1, ws, z2, z3⟩ := R1.mu r hr
        exact ⟨by rw [upd_ne (hM r hr)]; exact z1, ws, z2, z3.mono sF⟩
    have s6 : Stp F0 H0 (drp m p) (upd F1 L (.lst av)) H1 m1 := by
      refine ⟨s1.sub.trans sF, s1.keep, fun a u z => ?_, s1.newM⟩
      by_cases hb : a = L
      · subst hb; exact .inr (.inl hL)
      · rw [upd_ne hb] at z; exact s1.newF a u z
    obtain ⟨R7, s7⟩ := unpark R0 e1 hF0 hH0 rs s6 R6
    exact q _ _ _ _ H1 (h1 (offHead R7.nd)) R7 (s0.trans s7) (.lst upd_same (ra.mono sF))
theorem pd_lcE {X : Cx} {elt tg iter : Expr} {ifs : List Expr} {scope : Scope} {own : List (Str × Nat)} {pos : Pos} (hc : X.calm = true) (hN : X.N.Nodup) (hi : PD X iter de) (ok : BlkOk X.N X.env.scope scope own)
    (hg : ∀ (s : Shared) (H : Hp) (C : Addr) (cl : List (Str × Addr)) (fp : List Addr), PG (X.blk s H scope (compEnvC scope cl C X.env) fp) tg g)
    (hd : TgD X.K g dg (own.map (·.2))) (hm : MonG g)
    (ht : ∀ (s : Shared) (H : Hp) (C : Addr) (cl : List (Str × Addr)) (fp : List Addr), PDTs (X.blk s H scope (compEnvC scope cl C X.env) fp) ifs tt)
    (he : ∀ (s : Shared) (H : Hp) (C : Addr) (cl : List (Str × Addr)) (fp : List Addr), PD (X.blk s H scope (compEnvC scope cl C X.env) fp) elt te)
    (hs : ∀ x, foldedSetIterable iter X.env x = pure x := by intro _; rfl) :
    PD X (.ListComp elt [⟨tg, iter, ifs, 0⟩] scope pos) (dLcE de dg tt te (own.map (·.2))) :=
  peImp (pe_lc hc hN (pi_list hi) ok hg ht he hs) (lift_lcE hd hm)
def mForE (g : DG) (tb : DTS) (E : EN) (ds : DS) (d : D) (m : MS) : Prop := ∃ p xs, d = .opq (.ref p) ∧ look m p = some xs ∧ loopD g tb (E.parkN p xs) xs ds (drp m p)
def mLcE (g : DG) (tt : DT) (te : DE) (ds : DS) (P : D → MS → Prop) (d : D) (m : MS) : Prop := ∃ p xs, d = .opq (.ref p) ∧ look m p = some xs ∧ compD g tt te ds xs [] (drp m p) fun ys m' => (∀ e ∈ m', e.1 ≠ p) → P (.lst ys) ((p, xs) :: m')
theorem w_forE {E : EN} {ds : DS} {ms : MS} (h : ExG de ds ms fun d m => mForE dg tb E ds d m) : dForE de dg tb E ds ms := h
theorem w_mForE {E : EN} {ds : DS} {m m' : MS} {p : Addr} {xs : List D} (e1 : look m p = some xs) (e2 : drp m p = m') (h : loopD dg tb (E.parkN p xs) xs ds m') : mForE dg tb E ds (.opq (.ref p)) m := ⟨p, xs, rfl, e1, by rw [e2]; exact h⟩
theorem w_lcE {ds : DS} {ms : MS} {P : D → MS → Prop} (h : ExG de ds ms fun d m => mLcE dg tt te (wipeD ds vs) P d m) : dLcE de dg tt te vs ds ms P := h
theorem w_mLcE {ds : DS} {m m' : MS} {P : D → MS → Prop} {p : Addr} {xs : List D} (e1 : look m p = some xs) (e2 : drp m p = m') (h : compD dg tt te ds xs [] m' fun ys m2 => (∀ e ∈ m2, e.1 ≠ p) → P (.lst ys) ((p, xs) :: m2)) : mLcE dg tt te ds P (.opq (.ref p)) m := ⟨p, xs, rfl, e1, by rw [e2]; exact h⟩
end
end DL
namespace DL
open PySem PySem.Spec PyProof.Rows L2
/-- an exception in flight bears it that the heap grows -/
theorem flying_more {B : Heap} {l : List Env} {a : Addr} {Z : Obj → Prop} {h h' : Heap} (f : HandSPX.FlyingZ B l a Z h) (k : ∀ q o, h.get? q = some o → h'.get? q = some o) : HandSPX.FlyingZ B l a Z h' := by
  obtain ⟨st, n, fr, oe, vs, T, oT, ts, he, hz, hd, h1, bT, ne, hT, dT, t3⟩ := f
  exact ⟨fun b o e => k b o (st b o e), n, Heap.FunFrames.of_keeps (fun b o e _ => ⟨o, k b o e, rfl⟩) fr, oe, vs, T, oT, ts, k _ _ he, hz, hd, h1, bT, ne, k _ _ hT, dT, t3⟩
def wKeepT (K : PySem.W.Frag) (cs : List Value) (i j : Nat) (Wout : WX) (D : Ends) : WX := fun cv d σ H => ∃ b, PySem.W.exmAny K cv cs = some b ∧
  (b = true → ∀ a, H a = none → D.nx (((σ.set i (some (V.ref a))).set j (some (V.ref a))).set i none) (upd H a (ExH cv d a))) ∧ (b = false → Wout cv d σ H)
section
variable {X : Cx} {x x2 n : Str} {c c2 : Value} {i j tx : Nat} {body : List Stmt} {sv : Stmt} {np np2 tpos pos pos' : Pos} {tb : WX → TS} {Wout : WX}
theorem ps_tryKeepT (hs : X.stack = X.env :: X.outer) (hf : X.env.frame = some X.env.locals) (hex : X.ex = []) (hN : X.N.Nodup) (hi : X.N[i]? = some n) (hln : X.env.kindOf n = some .local) (hc : Names X x c) (hc2 : Names X x2 c2) (tk : Takes X Wout)
    (hb : ∀ (W : WX) (q : List (Addr × Obj)) (xe : Value → Shared → Prop), Takes (X.tr q xe) W → PassesOwn (model X.prog X.w) X.A X.env xe → PSs (X.tr q xe) body (tb W))
    (hsv : ∀ (a : Addr) (q : List (Addr × Obj)), PSs (X.suite a q) [sv] (tAsg (tVar i) (gName j))) :
    PS X (.Try body [.ExceptHandler (some (.Tuple [.Name x np, .Name x2 np2] tx tpos)) (some n) [sv] pos'] [] [] pos) (fun D σ H => tb (wKeepT X.K [c, c2] i j Wout D) D σ H) := by
  refine ⟨fun pins s σ H D I h => wpAny_Try_except ?_⟩
  have ok := I.ok
  have fr : X.A.frames = some (X.env :: X.outer) := ok.frames.trans (congrArg some hs)
  have caught : Takes (X.tr (X.pn ++ pins) fun v t1 => wpAny (model X.prog X.w) X.A (noteFrame v X.env)
      (fun _ t2 => wpAny (model X.prog X.w) X.A (setFlight v none) (fun _ t3 => wpAny (model X.prog X.w) X.A (handleBy v X.env [.ExceptHandler (some (.Tuple [.Name x np, .Name x2 np2] tx tpos)) (some n) [sv] pos']) (SP X pins D) X.xe t3) X.xe t2) X.xe t1) (wKeepT X.K [c, c2] i j Wout D) := by
    rintro v t ⟨a, B, t0, pins0, τ, G, cv, d, rfl, J0, low, up, sky, na, ho, hg, b, hm, yes, no⟩
    have J : Inv X pins τ G t0 := J0.ofTry ok
    rw [show (X.tr (X.pn ++ pins) _).stack = X.env :: X.outer from hs] at sky
    refine Sky.land Zc.steady fr hf sky fun g1 fly u1 => ?_
    have J1 : Inv X pins τ G { t with heap := g1 } := J.landed low fly.1 (up.trans u1) ho hg
    obtain ⟨o1, f1, ha1, hz1, hd1⟩ := fly.there
    have off : a ∉ frs (X.env :: X.outer) := fun hm => by
      obtain ⟨_, o2, ha2, nf⟩ := fly.2.2.1.mem hm
      cases ha1.symm.trans ha2
      exact nf _ hd1
    have offL : a ≠ X.env.locals := fun z => off (List.mem_filterMap.mpr ⟨X.env, List.mem_cons_self, hf.trans (congrArg some z.symm)⟩)
    have offF : a ∉ X.fs := fun hm => by
      obtain ⟨e1, h1, h2⟩ := List.mem_filterMap.mp hm
      exact off (List.mem_filterMap.mpr ⟨e1, List.mem_cons_of_mem _ h1, h2⟩)
    have n0 : t0.heap.get? a = none := by
      cases e : t0.heap.get? a with
      | none => rfl
      | some o =>
        have z := low a o e (by rw [show (X.tr (X.pn ++ pins) _).stack = X.env :: X.outer from hs]; exact off)
        rw [fly.2.1] at z
        cases z
    have S1 := J1.suite ha1 hd1 na offL offF
    have ty : PySem.W.Looks (model X.prog X.w) g1 (typeOf (.ref a)) cv := fun _ _ _ _ k q => wpAny_typeOf_ref (k _ _ ha1) (by rw [hz1.1]; exact q)
    refine wpAny_handleBy_cons (codeAny_handlers_test ?_) (fun q => nomatch q)
    have name : ∀ {Q E : Value → Shared → Prop}, Q c { t with heap := g1 } → wpAny (model X.prog X.w) (X.A.mark (some (.ref a))) (eval (.Name x np) X.env) Q E { t with heap := g1 } := by
      intro Q E q
      rcases hc with ⟨h1, h2, h3 | ⟨h3, h4, h5⟩⟩
      · exact ld_glob S1 h1 h3 q h2
      · exact ld_blt S1 h1 h3 h4 q h5 h2
    have name2 : ∀ {Q E : Value → Shared → Prop}, Q c2 { t with heap := g1 } → wpAny (model X.prog X.w) (X.A.mark (some (.ref a))) (eval (.Name x2 np2) X.env) Q E { t with heap := g1 } := by
      intro Q E q
      rcases hc2 with ⟨h1, h2, h3 | ⟨h3, h4, h5⟩⟩
      · exact ld_glob S1 h1 h3 q h2
      · exact ld_blt S1 h1 h3 h4 q h5 h2
    refine wpAny_Tuple ?_
    refine wpAny_items_cons (name ?_)
    refine wpAny_items_cons (name2 ?_)
    refine wpAny_items_nil ⟨by size_fits, ?_⟩
    have kp : ∀ q o, g1.get? q = some o → (g1.push { cls := .type "tuple", data := .seq [c, c2].toArray }).get? q = some o := fun _ _ z => Heap.get?_push_of_some _ z
    refine ((PySem.W.exm_tup2 (J1.kIn.keeps kp) (ty.keeps kp) (Heap.get?_push_size g1 rfl) hm).here ?_)
    have u1 := u1.trans (Heap.UpToSlots.of_keeps kp)
    have fly := flying_more fly kp
    generalize g1.push { cls := .type "tuple", data := .seq [c, c2].toArray } = g1 at u1 fly ⊢
    cases b with
    | true =>
      refine codeAny_handlers_suite_as (HandSPX.lands_againZ fly fun g2 fly2 u2 => ?_)
      have J2 : Inv X pins τ G { t with heap := g2 } := J.landed low fly2.1 ((up.trans u1).trans u2) ho hg
      obtain ⟨o2, f2, ha2, hz2, hd2⟩ := fly2.there
      refine store_ok (X := X.suite a ((a, o2) :: (X.pn ++ pins))) (v := V.ref a) (J2.suite ha2 hd2 na offL offF) hN hi (.inl hln) rfl (fun t5 S5 => ?_) (.inr hln)
      have lt : i < τ.length := by
        have := J2.len
        have := (List.getElem?_eq_some_iff.mp hi).1
        omega
      have rd : tAsg (tVar i) (gName j) { nx := fun σ6 H6 => H6 = G ∧ σ6 = (τ.set i (some (V.ref a))).set j (some (V.ref a)), rt := fun _ _ => False } (τ.set i (some (V.ref a))) G := ⟨V.ref a, List.getElem?_set_self lt, rfl, rfl⟩
      refine wpAny_mono ((hsv a _).run [] t5 _ G _ S5 rd) (fun fl t6 z => ?_) fun _ _ z => z.elim
      match fl, z with
      | .next, ⟨σ6, H6, S6, e6, e7⟩ =>
        subst e6 e7
        obtain ⟨ha6, _⟩ := S6.pin (a, o2) (List.mem_append_left _ List.mem_cons_self)
        have T6 := track (S6.unsuite ok) J hex n0 na ha6 hz2 hd2
        exact gone_ok T6 hN hi hln fun t7 J7 => ⟨_, _, J7, yes rfl a na⟩
      | .brk, ⟨_, _, _, z⟩ => exact z.elim
      | .cont, ⟨_, _, _, z⟩ => exact z.elim
      | .ret _, ⟨_, _, _, _, _, z⟩ => exact z.elim
    | false =>
      refine wpAny_handleBy_nil ?_
      obtain ⟨_, _, _, o3, f3, T, _, _, ha3, _, hd3, h13, _⟩ := id fly
      unfold PySem.passOn
      refine wpAny_bind (wpAny_field ha3 hd3 h13 ?_)
      rw [if_neg (by simp)]
      have last : wpAny (model X.prog X.w) X.A (setFlight (.ref a) X.env.frame) (fun _ t4 => wpAny (model X.prog X.w) X.A (throw (.ref a) : Sem Flow) (SP X pins D) X.xe t4) X.xe { t with heap := g1 } := by
        rw [hf]
        exact HandSPX.setFlight_upZ fly fun g4 held u4 => wpAny_throw (tk _ _ ⟨a, B, t0, pins, τ, G, cv, d, rfl, J, low, (up.trans u1).trans u4, .inr (.inr (hs ▸ held)), na, ho, hg, no rfl⟩)
      first
        | exact wpAny_bind (wpAny_pure (wpAny_bind last))
        | exact wpAny_bind last
  refine wpAny_mono ((hb _ _ _ caught PassesOwn.looking).run [] s σ H D (I.toTry _) h) (fun fl t1 z => ?_) fun _ _ z => z
  match fl, z with
  | .next, ⟨σ1, H1, J1, q⟩ => exact wpAny_execs_nil ⟨σ1, H1, J1.ofTry ok, q⟩
  | .brk, ⟨σ1, H1, J1, q⟩ => exact ⟨σ1, H1, J1.ofTry ok, q⟩
  | .cont, ⟨σ1, H1, J1, q⟩ => exact ⟨σ1, H1, J1.ofTry ok, q⟩
  | .ret _, ⟨v1, σ1, H1, J1, r, q⟩ => exact ⟨v1, σ1, H1, J1.ofTry ok, r, q⟩
end
/-- two lists of what a class takes, laid together -/
def mlOr (m1 m2 : List (Str × Bool)) : List (Str × Bool) := m1.filterMap fun p => (m2.lookup p.1).map fun b => (p.1, p.2 || b)
theorem mlOr_look {m2 : List (Str × Bool)} {c : Str} {b : Bool} : ∀ {m1 : List (Str × Bool)}, (mlOr m1 m2).lookup c = some b → ∃ b1 b2, m1.lookup c = some b1 ∧ m2.lookup c = some b2 ∧ b = (b1 || b2)
  | [], h => by cases h
  | (k, v) :: r, h => by
    unfold mlOr at h
    rw [List.filterMap_cons] at h
    by_cases e : c = k
    · subst e
      cases h2 : m2.lookup c with
      | some b2 =>
        rw [h2] at h
        simp only [Option.map_some, List.lookup_cons_self, Option.some.injEq] at h
        exact ⟨v, b2, List.lookup_cons_self, rfl, h.symm⟩
      | none =>
        rw [h2] at h
        obtain ⟨b1, b2, _, h4, _⟩ := mlOr_look (m1 := r) h
        rw [h2] at h4
        cases h4
    · have ne : (c == k) = false := by rw [beq_eq_false_iff_ne]; exact e
      have h' : (mlOr r m2).lookup c = some b := by
        cases h2 : m2.lookup k with
        | some b2 =>
          rw [h2] at h
          simp only [Option.map_some, List.lookup_cons, ne] at h
          exact h
        | none =>
          rw [h2] at h
          exact h
      obtain ⟨b1, b2, h3, h4, h5⟩ := mlOr_look (m1 := r) h'
      exact ⟨b1, b2, by rw [List.lookup_cons, ne]; exact h3, h4, h5⟩
theorem mlOr_any {K : PySem.W.Frag} {m1 m2 ml : List (Str × Bool)} {cl cl2 cv : Value} {c : Str} {b : Bool} (hm : mlOr m1 m2 = ml) (h1 : ∀ c b cv, m1.lookup c = some b → PySem.W.nsIn K mainGlobals c = some (some cv) → PySem.W.exmOne K cv cl = some b)
    (h2 : ∀ c b cv, m2.lookup c = some b → PySem.W.nsIn K mainGlobals c = some (some cv) → PySem.W.exmOne K cv cl2 = some b) (e : ml.lookup c = some b) (hn : PySem.W.nsIn K mainGlobals c = some (some cv)) : PySem.W.exmAny K cv [cl, cl2] = some b := by
  subst hm
  obtain ⟨b1, b2, e1, e2, rfl⟩ := mlOr_look e
  unfold PySem.W.exmAny PySem.W.exmAny
  rw [h1 c b1 cv e1 hn, h2 c b2 cv e2 hn]
  show some (b1 || (b2 || false)) = _
  rw [Bool.or_false]
section
variable {X : Cx} {x x2 n : Str} {cl cl2 : Value} {i j tx : Nat} {body : List Stmt} {sv : Stmt} {np np2 tpos pos pos' : Pos} {tb : DTS} {W : WX} {ml m1 m2 : List (Str × Bool)}
theorem px_tryT (hc : Names X x cl) (hc2 : Names X x2 cl2) (h1 : ∀ c b cv, m1.lookup c = some b → PySem.W.nsIn X.K mainGlobals c = some (some cv) → PySem.W.exmOne X.K cv cl = some b) (h2 : ∀ c b cv, m2.lookup c = some b → PySem.W.nsIn X.K mainGlobals c = some (some cv) → PySem.W.exmOne X.K cv cl2 = some b) (hm : mlOr m1 m2 = ml) (tk : Takes X W)
    (hb : ∀ (W : WX) (q : List (Addr × Obj)) (xe : Value → Shared → Prop), Takes (X.tr q xe) W → PassesOwn (model X.prog X.w) X.A X.env xe → PXs (X.tr q xe) W body tb)
    (hsv : ∀ (a : Addr) (q : List (Addr × Obj)), PSs (X.suite a q) [sv] (tAsg (tVar i) (gName j))) (hN : X.N.Nodup) (hi : X.N[i]? = some n) (hln : X.env.kindOf n = some .local) (hij : i ≠ j)
    (hs : X.stack = X.env :: X.outer := by rfl) (hf : X.env.frame = some X.env.locals := by rfl) (hex : X.ex = [] := by rfl) :
    PX X W (.Try body [.ExceptHandler (some (.Tuple [.Name x np, .Name x2 np2] tx tpos)) (some n) [sv] pos'] [] [] pos) (dTry ml i j tb) :=
  psImp (ps_tryKeepT (tb := fun W => liftX X.K W tb) hs hf hex hN hi hln hc hc2 tk hb hsv) fun D σ H ⟨F, ds, ms, E, R, S, h, n1, r1, k1, q1, x1⟩ =>
    ⟨F, ds, ms, _, R, S, h, n1, r1, k1, q1, fun c ns xs ds1 mm cv d ws σ1 F1 H1 hh R1 s1 S1 hn hx hd => by
      have h1' : (match ml.lookup c with
        | some true => E.nx ((setSlot ds1 j (.exc c ns xs)).set i none) mm
        | some false => E.ex c ns xs ds1 mm
        | none => False) := hh
      cases e : ml.lookup c with
      | none => rw [e] at h1'; exact h1'.elim
      | some b =>
        rw [e] at h1'
        refine ⟨b, mlOr_any hm h1 h2 e hn, fun hb1 a na => ?_, fun hb1 => ?_⟩
        · subst hb1
          refine n1 _ mm _ (upd F1 a (ExH cv d a)) _ h1' (R1.new na) (s1.trans (Stp.new R1 na)) ?_
          rw [List.set_comm _ _ hij, List.set_set]
          have sb : Sub F1 (upd F1 a (ExH cv d a)) := Sub.new (R1.sub.none na)
          exact Sl.off i (Sl.set (.exc hn upd_same (hx.mono sb) (hd.mono sb)) j (S1.mono sb))
        · subst hb1
          exact x1 c ns xs ds1 mm cv d ws σ1 F1 H1 h1' R1 s1 S1 hn hx hd⟩
theorem pds_tryT (hc : Names X x cl) (hc2 : Names X x2 cl2) (h1 : ∀ c b cv, m1.lookup c = some b → PySem.W.nsIn X.K mainGlobals c = some (some cv) → PySem.W.exmOne X.K cv cl = some b) (h2 : ∀ c b cv, m2.lookup c = some b → PySem.W.nsIn X.K mainGlobals c = some (some cv) → PySem.W.exmOne X.K cv cl2 = some b) (hm : mlOr m1 m2 = ml)
    (hb : ∀ (W : WX) (q : List (Addr × Obj)) (xe : Value → Shared → Prop), Takes (X.tr q xe) W → PassesOwn (model X.prog X.w) X.A X.env xe → PXs (X.tr q xe) W body tb)
    (hsv : ∀ (a : Addr) (q : List (Addr × Obj)), PSs (X.suite a q) [sv] (tAsg (tVar i) (gName j))) (hN : X.N.Nodup) (hi : X.N[i]? = some n) (hln : X.env.kindOf n = some .local) (hij : i ≠ j)
    (hs : X.stack = X.env :: X.outer := by rfl) (hf : X.env.frame = some X.env.locals := by rfl) (hex : X.ex = [] := by rfl) :
    PDS X (.Try body [.ExceptHandler (some (.Tuple [.Name x np, .Name x2 np2] tx tpos)) (some n) [sv] pos'] [] [] pos) (dTry0 ml i j tb) :=
  psImp (px_tryT hc hc2 h1 h2 hm takes0 hb hsv hN hi hln hij hs hf hex) fun D σ H ⟨F, ds, ms, E, R, S, h, n1, r1, k1, q1⟩ => ⟨F, ds, ms, _, R, S, h, n1, r1, k1, q1, fun _ _ _ _ _ _ _ _ _ _ _ z => z.elim⟩
end
end DL
namespace DL
open PySem PySem.Spec PyProof.Rows L2
def seen (m : MS) : D → Option (List D)
  | .lst a => some a
  | .opq (.ref p) => look m p
  | _ => none
def fAddL : OF := fun x y ms P => ∃ a b, seen ms x = some a ∧ seen ms y = some b ∧ a.length + b.length ≤ sizeLine ∧ ∀ p, (∀ q ∈ ms, q.1 ≠ p) → P (.opq (.ref p)) ((p, a ++ b) :: ms)
theorem seen_at {K : PySem.W.Frag} {F H : Hp} {ms : MS} {v : V} {d : D} {a : List D} (R : Rel K F H ms) (r : DR K F v d) (e : seen ms d = some a) : ∃ p vs, v = .ref p ∧ H p = some (.lst vs) ∧ DRs K F vs a := by
  cases r with
  | lst h1 r1 => cases e; exact ⟨_, _, rfl, R.sub _ _ h1, r1⟩
  | opq z =>
    cases v with
    | ref p =>
      obtain ⟨_, vs, h1, r1⟩ := R.look e
      exact ⟨p, vs, rfl, h1, r1⟩
    | _ => cases e
  | _ => cases e
theorem opd_addL {K : PySem.W.Frag} : OpD K (rAddD K) fAddL := by
  intro F H ms x y dx dy P Q R rx ry h q
  obtain ⟨a, b, ea, eb, hz, h⟩ := h
  obtain ⟨p1, v1, rfl, h1, r1⟩ := seen_at R rx ea
  obtain ⟨p2, v2, rfl, h2, r2⟩ := seen_at R ry eb
  refine .inr (.inr (.inl ⟨_, _, _, _, rfl, rfl, h1, h2, by rw [r1.length, r2.length]; exact hz, fun p hp => ?_⟩))
  exact q _ _ _ F _ (h p (R.newMut hp (r1.append r2)).1) (R.newMut hp (r1.append r2)).2 (Stp.newMut hp) (.opq _)
theorem w_addL {x y : D} {a b : List D} {ms : MS} {P : D → MS → Prop} (e1 : seen ms x = some a) (e2 : seen ms y = some b) (h : a.length + b.length ≤ sizeLine ∧ ∀ p, (∀ q ∈ ms, q.1 ≠ p) → P (.opq (.ref p)) ((p, a ++ b) :: ms)) : fAddL x y ms P := ⟨a, b, e1, e2, h⟩
theorem seen_l {ms : MS} {a : List D} : seen ms (.lst a) = some a := rfl
end DL
namespace DL
open PySem PySem.Spec PyProof.Rows L2
end DL
namespace Pf
open PySem PySem.Spec PyProof.Rows L2 DL
local macro_rules | `(tactic| walk_at "dl") => `(tactic| simp only [dSeq, dWhile, dTest, dOp, dVar, dC, dPar, dRet, dRetN, dCB, dAsg, dIfS, dNext, dTup, dLst, dLstM, dCall, dNeg, dSetIx, dDrop, dAnd, dOr, dNot, dAndV, dOrV, dNotV, dIf, dFor, dLc, dSl, dIsi, dYes, dTru, truD, dAppend, dFrz,
  aNil, aCons, oNone, oSome, sName, sTup, sCons, sNil, iRange1, iRange2, iSeq, iTupD, iZipD, iEnumD, slot, setSlot, startD, List.length_nil, List.length_cons, Nat.reduceAdd, List.append_nil, List.cons_append, List.nil_append, pick, List.filterMap_cons, List.filterMap_nil, List.getElem?_cons_zero, List.getElem?_cons_succ,
  fI, fAdd, fSub, fMul, fDiv, fMod, fPow, fLt, fLe, fGt, fGe, fEq, fNe, cAbs, cMax2, cMin2, cInt1, cLen, cRepr, true_and, and_true, decide_eq_true_eq, if_true, dDoX, dRaise, dRaiseI, dExprZ, dRetZ, dAsgZ, dCallZ, dTry0, dTry, dIsE, dFld, dEdic, EN.lp, EN.wn, EN.wx])
theorem t9 : (10 : Int) ^ Int.toNat 9 = 1000000000 := by decide +kernel
theorem t6 : (10 : Int) ^ Int.toNat 6 = 1000000 := by decide +kernel
theorem t18 : (10 : Int) ^ Int.toNat 18 = 1000000000000000000 := by decide +kernel
theorem t30 : (10 : Int) ^ Int.toNat 30 = 1000000000000000000000000000000 := by decide +kernel
theorem t39 : (10 : Int) ^ Int.toNat 39 = 1000000000000000000000000000000000000000 := by decide +kernel
theorem t56 : (10 : Int) ^ Int.toNat 56 = 100000000000000000000000000000000000000000000000000000000 := by decide +kernel
theorem t60 : (10 : Int) ^ Int.toNat 60 = 1000000000000000000000000000000000000000000000000000000000000 := by decide +kernel
theorem t40 : (10 : Int) ^ Int.toNat 40 = 10000000000000000000000000000000000000000 := by decide +kernel
theorem t50 : (10 : Int) ^ Int.toNat 50 = 100000000000000000000000000000000000000000000000000 := by decide +kernel
theorem t59 : (10 : Int) ^ Int.toNat 59 = 100000000000000000000000000000000000000000000000000000000000 := by decide +kernel
theorem t58 : (10 : Int) ^ Int.toNat 58 = 10000000000000000000000000000000000000000000000000000000000 := by decide +kernel
def fr (p : Int × Int) : D := .tup [.int p.1, .int p.2]
def Bd (n : Nat) (x : Int) : Prop := x.natAbs < 2 ^ n
theorem Bd.mono {n m : Nat} {x : Int} (h : Bd n x) (hm : n ≤ m) : Bd m x := Nat.lt_of_lt_of_le h (Nat.pow_le_pow_right (by decide) hm)
theorem Bd.add {n : Nat} {x y : Int} (h : Bd n x) (h2 : Bd n y) : Bd (n + 1) (x + y) := by
  unfold Bd at *
  have := Int.natAbs_add_le x y
  rw [Nat.pow_succ]
  omega
theorem Bd.log {n : Nat} {x : Int} (h : Bd n x) (h0 : 0 < n) : x.natAbs.log2 < n := PySem.Flt.log2_lt_of h0 h
mutual
def wt : PyData → Nat
  | .none => 10
  | .bool _ => 10
  | .int _ => 2000
  | .str x => 10 * x.length + 10
  | .list xs => wts xs + 10
  | .tuple xs => wts xs + 10
  | .dict _ => 10
def wts : List PyData → Nat
  | [] => 0
  | x :: r => wt x + 2 + wts r
end
mutual
def lay1 : PyData → Bool
  | .none => true
  | .bool _ => true
  | .int _ => true
  | .str x => x.cps.all (· < 0x110000)
  | .list xs => lay1s xs
  | .tuple xs => lay1s xs
  | .dict kvs => kvs.isEmpty
def lay1s : List PyData → Bool
  | [] => true
  | x :: r => lay1 x && lay1s r
end
mutual
theorem lay1_of : ∀ p : PyData, p.canLay0 = true → lay1 p = true
  | .none, _ => rfl
  | .bool _, _ => rfl
  | .int _, _ => rfl
  | .str x, h => h
  | .list xs, h => lay1s_of xs h
  | .tuple xs, h => lay1s_of xs h
  | .dict _, h => by cases h
theorem lay1s_of : ∀ xs : List PyData, PyData.canLayAll0 xs = true → lay1s xs = true
  | [], _ => rfl
  | x :: r, h => by
    obtain ⟨a1, a2⟩ := Bool.and_eq_true_iff.mp h
    show (lay1 x && lay1s r) = true
    rw [lay1_of x a1, lay1s_of r a2]; rfl
end
theorem listText_le (ts : List Str) : (listText ts).length ≤ piled ts + 4 := by
  have e : (listText ts).length = (textFrom 0 "[" ts).length + 1 := by
    show (textFrom 0 "[" ts ++ "]").length = _
    rw [strLen_append]; rfl
  cases ts with
  | nil => rw [e]; decide +kernel
  | cons t r =>
    have h1 : textFrom 0 "[" (t :: r) = textFrom 1 ("[" ++ (if 0 > 0 then ", " else "" : String) ++ t) r := rfl
    have h2 := textFrom_length_pos r 1 ("[" ++ (if 0 > 0 then ", " else "" : String) ++ t) (by decide)
    have h3 : (("[" : Str) ++ ((if 0 > 0 then ", " else "" : String) : Str) ++ t).length = 1 + t.length := by
      rw [strLen_append, strLen_append]
      show 1 + 0 + t.length = _
      omega
    rw [e, h1, h2, h3, piled_cons]
    omega
mutual
theorem shown_le : ∀ p : PyData, lay1 p = true → p.showable = true → p.shown.length ≤ wt p
  | .none, _, _ => by decide +kernel
  | .bool b, _, _ => by cases b <;> decide +kernel
  | .int i, _, h => by
    have := int_text_len_1921 (i := i) (of_decide_eq_true h)
    show (Str.ofString (toString i)).length ≤ 2000
    omega
  | .str x, h, _ => by
    have h' : x.cps.all (· < 0x110000) = true := h
    have := StrLaws.reprText_len x fun c hc => by
      rw [Array.all_eq_true'] at h'
      have z := of_decide_eq_true (h' c (Array.mem_toList_iff.mp hc))
      exact Nat.lt_trans z (by decide)
    show (reprText x).length ≤ 10 * x.length + 10
    omega
  | .list xs, h, h2 => by
    have := shownAll_le xs h h2
    have h3 := listText_le (PyData.shownAll xs)
    show (listText (PyData.shownAll xs)).length ≤ wts xs + 10
    omega
  | .tuple xs, h, h2 => by
    have := shownAll_le xs h h2
    have h3 := fmt_text (PyData.shownAll xs)
    show (tupleText (PyData.shownAll xs)).length ≤ wts xs + 10
    omega
  | .dict kvs, h, _ => by
    cases kvs with
    | nil => exact (by decide +kernel : (PyData.dict []).shown.length ≤ 10)
    | cons _ _ => cases h
theorem shownAll_le : ∀ xs : List PyData, lay1s xs = true → PyData.showableAll xs = true → piled (PyData.shownAll xs) ≤ wts xs
  | [], _, _ => Nat.le_refl 0
  | x :: r, h, h2 => by
    obtain ⟨a1, a2⟩ := Bool.and_eq_true_iff.mp h
    obtain ⟨b1, b2⟩ := Bool.and_eq_true_iff.mp h2
    have z1 := shown_le x a1 b1
    have z2 := shownAll_le r a2 b2
    show piled (PyData.shown x :: PyData.shownAll r) ≤ wt x + 2 + wts r
    rw [piled_cons]
    omega
end
structure Sm (d : D) (n k : Nat) : Prop where
  ex : ∃ p, toPy d = some p ∧ p.canLay0 = true ∧ p.showable = true ∧ wt p ≤ n ∧ p.depth ≤ k
theorem Sm.mono {d : D} {n k n' k' : Nat} (h : Sm d n k) (h1 : n ≤ n') (h2 : k ≤ k') : Sm d n' k' := by
  obtain ⟨p, a, b, c, e, f⟩ := h.ex
  exact ⟨p, a, b, c, Nat.le_trans e h1, Nat.le_trans f h2⟩
theorem Sm.shw {d : D} {n k : Nat} (h : Sm d n k) (hn : n ≤ 16000000 := by decide) (hk : k ≤ 60 := by decide) : Shw d := by
  obtain ⟨p, a, b, c, e, f⟩ := h.ex
  exact ⟨p, a, c, by omega, Nat.le_trans (shown_le p (lay1_of p b) c) (Nat.le_trans e (Nat.le_trans hn (by decide)))⟩
theorem Sm.sh {d : D} {n k : Nat} (h : Sm d n k) (hk : k ≤ 60 := by decide) : ShD d := by
  obtain ⟨p, a, b, c, e, f⟩ := h.ex
  refine ⟨p, a, ?_⟩
  unfold SeqAt.shaped
  rw [b, decide_eq_true (by omega : p.depth ≤ 64)]
  rfl
theorem sm_int {n : Nat} {i : Int} (h : Bd n i) (hn : n ≤ 1900 := by decide) : Sm (.int i) 2000 0 := by
  refine ⟨_, rfl, rfl, ?_, Nat.le_refl _, Nat.le_refl _⟩
  refine decide_eq_true (Nat.lt_of_lt_of_le (Bd.log (n := n + 1) (h.mono (Nat.le_succ n)) (Nat.succ_pos n)) (by omega))
theorem sm_bl (b : Bool) : Sm (.bl b) 10 0 := ⟨_, rfl, rfl, rfl, Nat.le_refl _, Nat.le_refl _⟩
theorem sm_non : Sm .non 10 0 := ⟨_, rfl, rfl, rfl, Nat.le_refl _, Nat.le_refl _⟩
theorem sm_str (x : Str) (h : x.cps.all (· < 0x110000) = true) : Sm (.str x) (10 * x.length + 10) 0 := ⟨_, rfl, h, rfl, Nat.le_refl _, Nat.le_refl _⟩
/-- the same, empty dicts too: for repr alone -/
structure Sd (d : D) (n k : Nat) : Prop where
  ex : ∃ p, toPy d = some p ∧ lay1 p = true ∧ p.showable = true ∧ wt p ≤ n ∧ p.depth ≤ k
theorem Sm.sd {d : D} {n k : Nat} (h : Sm d n k) : Sd d n k := by
  obtain ⟨p, a, b, c, e, f⟩ := h.ex
  exact ⟨p, a, lay1_of p b, c, e, f⟩
theorem Sd.mono {d : D} {n k n' k' : Nat} (h : Sd d n k) (h1 : n ≤ n') (h2 : k ≤ k') : Sd d n' k' := by
  obtain ⟨p, a, b, c, e, f⟩ := h.ex
  exact ⟨p, a, b, c, Nat.le_trans e h1, Nat.le_trans f h2⟩
theorem Sd.shw {d : D} {n k : Nat} (h : Sd d n k) (hn : n ≤ 16000000 := by decide) (hk : k ≤ 60 := by decide) : Shw d := by
  obtain ⟨p, a, b, c, e, f⟩ := h.ex
  exact ⟨p, a, c, by omega, Nat.le_trans (shown_le p b c) (Nat.le_trans e (Nat.le_trans hn (by decide)))⟩
theorem sd_all {n k : Nat} : ∀ xs : List D, (∀ x ∈ xs, Sd x n k) → ∃ ps, toPys xs = some ps ∧ lay1s ps = true ∧ PyData.showableAll ps = true ∧ wts ps ≤ (n + 2) * xs.length ∧ PyData.depthAll ps ≤ k
  | [], _ => ⟨[], rfl, rfl, rfl, Nat.zero_le _, Nat.zero_le _⟩
  | x :: r, h => by
    obtain ⟨p, a, b, c, e, f⟩ := (h x List.mem_cons_self).ex
    obtain ⟨ps, a2, b2, c2, e2, f2⟩ := sd_all r fun y hy => h y (List.mem_cons_of_mem _ hy)
    refine ⟨p :: ps, by unfold toPys; rw [a, a2], Bool.and_eq_true_iff.mpr ⟨b, b2⟩, Bool.and_eq_true_iff.mpr ⟨c, c2⟩, ?_, Nat.max_le.mpr ⟨f, f2⟩⟩
    show wt p + 2 + wts ps ≤ (n + 2) * (r.length + 1)
    rw [Nat.mul_succ]
    omega
theorem sd_lst {n k : Nat} {xs : List D} (h : ∀ x ∈ xs, Sd x n k) : Sd (.lst xs) ((n + 2) * xs.length + 10) (k + 1) := by
  obtain ⟨ps, a, b, c, e, f⟩ := sd_all xs h
  refine ⟨.list ps, by unfold toPy; rw [a]; rfl, b, c, ?_, Nat.succ_le_succ f⟩
  show wts ps + 10 ≤ _
  omega
mutual
def plain : D → Bool
  | .non => true
  | .bl _ => true
  | .int _ => true
  | .str _ => true
  | .lst xs => plains xs
  | .tup xs => plains xs
  | .fro _ => false
  | .edic => true
  | .dct _ => false
  | .opq _ => false
  | .exc _ _ _ => false
def plains : List D → Bool
  | [] => true
  | x :: r => plain x && plains r
end
theorem plains_iff : ∀ {xs : List D}, plains xs = true ↔ ∀ x ∈ xs, plain x = true
  | [] => ⟨fun _ _ h => (by cases h), fun _ => rfl⟩
  | x :: r => by
    show (plain x && plains r) = true ↔ _
    rw [Bool.and_eq_true_iff, plains_iff (xs := r)]
    exact ⟨fun h y hy => (List.mem_cons.mp hy).elim (fun e => e ▸ h.1) (h.2 y), fun h => ⟨h x List.mem_cons_self, fun y hy => h y (List.mem_cons_of_mem _ hy)⟩⟩
/-- plain data that repr shows -/
structure Gd (d : D) (n k : Nat) : Prop where
  pl : plain d = true
  sd : Sd d n k
theorem Gd.mono {d : D} {n k n' k' : Nat} (h : Gd d n k) (h1 : n ≤ n') (h2 : k ≤ k') : Gd d n' k' := ⟨h.pl, h.sd.mono h1 h2⟩
theorem gd_non : Gd .non 10 0 := ⟨rfl, sm_non.sd⟩
theorem gd_bl (b : Bool) : Gd (.bl b) 10 0 := ⟨rfl, (sm_bl b).sd⟩
theorem gd_int {n : Nat} {i : Int} (h : Bd n i) (hn : n ≤ 1900 := by decide) : Gd (.int i) 2000 0 := ⟨rfl, (sm_int h hn).sd⟩
theorem gd_lst {n k : Nat} {xs : List D} (h : ∀ x ∈ xs, Gd x n k) : Gd (.lst xs) ((n + 2) * xs.length + 10) (k + 1) := ⟨plains_iff.mpr fun x hx => (h x hx).pl, sd_lst fun x hx => (h x hx).sd⟩
theorem all_nil {p : D → Prop} : ∀ x ∈ ([] : List D), p x := fun _ h => by cases h
theorem all_cons {p : D → Prop} {x : D} {r : List D} (h : p x) (t : ∀ y ∈ r, p y) : ∀ y ∈ x :: r, p y := fun y hy => by
  rcases List.mem_cons.mp hy with rfl | hy
  · exact h
  · exact t y hy
theorem ofString_ok (s : String) : (Str.ofString s).cps.all (· < 0x110000) = true := by
  rw [Array.all_eq_true']
  intro c hc
  rw [← Array.mem_toList_iff, PyProof.Rows.signs_ofString, List.mem_map] at hc
  obtain ⟨ch, _, rfl⟩ := hc
  have := ch.valid
  rcases this with h | ⟨_, h⟩
  · exact decide_eq_true (Nat.lt_trans h (by decide))
  · exact decide_eq_true h
theorem gd_str (x : Str) (h : x.cps.all (· < 0x110000) = true) : Gd (.str x) (10 * x.length + 10) 0 := ⟨rfl, (sm_str x h).sd⟩
theorem gd_lit (s : String) : Gd (.str s) (10 * (Str.ofString s).length + 10) 0 := gd_str _ (ofString_ok s)
theorem atI_0 {α : Type} (x : α) (r : List α) : atI (x :: r) 0 = some x := atI_nat (j := 0) rfl
theorem atI_1 {α : Type} (x y : α) (r : List α) : atI (x :: y :: r) 1 = some y := atI_nat (j := 1) rfl
theorem rng_mem {lo : Int} {n : Nat} {x : D} (h : x ∈ rng lo n) : ∃ i : Nat, i < n ∧ x = .int (lo + i) := by
  unfold rng at h
  obtain ⟨i, hi, rfl⟩ := List.mem_map.mp h
  exact ⟨i, List.mem_range.mp hi, rfl⟩
theorem rng_len {lo : Int} {n : Nat} : (rng lo n).length = n := by unfold rng; rw [List.length_map, List.length_range]
theorem ints_of {n : Nat} : ∀ ys : List D, (∀ y ∈ ys, ∃ i : Int, y = .int i ∧ Bd n i) → ∃ is : List Int, ys = is.map D.int ∧ (∀ i ∈ is, Bd n i) ∧ is.length = ys.length
  | [], _ => ⟨[], rfl, (fun _ h => by cases h), rfl⟩
  | y :: r, h => by
    obtain ⟨t, rfl, ht⟩ := h y List.mem_cons_self
    obtain ⟨ts, e, h2, h3⟩ := ints_of r fun z hz => h z (List.mem_cons_of_mem _ hz)
    refine ⟨t :: ts, by rw [e]; rfl, fun x hx => ?_, by rw [List.length_cons, List.length_cons, h3]⟩
    rcases List.mem_cons.mp hx with rfl | hx
    · exact ht
    · exact h2 x hx
theorem comp_e {α : Type} {g : DG} {te : DE} {ds : DS} {ms : MS} (e : α → D) (f : α → D) : ∀ (xs : List α) (acc : List D) (P : List D → MS → Prop), acc.length + xs.length ≤ 1000000 →
    (∀ x ∈ xs, ∀ P0 : D → MS → Prop, P0 (f x) ms → g (e x) ds fun ds2 => te ds2 ms P0) → P (acc ++ xs.map f) ms → compD g dYes te ds (xs.map e) acc ms P
  | [], acc, P, _, _, h => by rw [List.map_nil, List.append_nil] at h; exact h
  | x :: r, acc, P, hl, t, h => by
    rw [List.length_cons] at hl
    rw [List.map_cons]
    unfold compD
    simp only [dYes, if_true]
    refine t x List.mem_cons_self _ ⟨Nat.lt_of_lt_of_le (by omega : acc.length < 1000001) (by decide), comp_e e f r _ P (by rw [List.length_append, List.length_singleton]; omega) (fun y hy => t y (List.mem_cons_of_mem _ hy)) ?_⟩
    rw [List.append_assoc]
    exact h
theorem bls_map {α : Type} (f : α → Bool) : ∀ xs : List α, blsOf (xs.map fun x => D.bl (f x)) = some (xs.map f)
  | [] => rfl
  | x :: r => by rw [List.map_cons, List.map_cons]; unfold blsOf; rw [bls_map f r]; rfl
local macro_rules | `(tactic| walk_at "d2") => `(tactic| simp only [dSeq, dWhile, dTest, dOp, dVar, dC, dPar, dRet, dRetN, dCB, dAsg, dIfS, dNext, dTup, dLst, dLstM, dCall, dNeg, dSetIx, dDrop, dAnd, dOr, dNot, dAndV, dOrV, dNotV, dIf, dFor, dLc, dSl, dIsi, dYes, dTru, truD, dAppend, dFrz,
  aNil, aCons, oNone, oSome, sName, sTup, sCons, sNil, iRange1, iRange2, iSeq, iTupD, iZipD, iEnumD, slot, setSlot, startD, List.length_nil, List.length_cons, Nat.reduceAdd, List.append_nil, List.cons_append, List.nil_append, pick, List.filterMap_cons, List.filterMap_nil, List.getElem?_cons_zero, List.getElem?_cons_succ,
  fI, fAdd, fSub, fMul, fDiv, fMod, fPow, fLt, fLe, fGt, fGe, fEq, fNe, cAbs, cMax2, cMin2, cInt1, cLen, cRepr, true_and, and_true, decide_eq_true_eq, if_true, dDoX, dRaise, dRaiseI, dExprZ, dRetZ, dAsgZ, dCallZ, dTry0, dTry, dIsE, dFld, dEdic, EN.lp, EN.wn, EN.wx, cTuple, cList, cStr, cAll, cAny, cSum, fSl, asL, fIx, atI_0, atI_1, fIn, fNotIn, fInB, wipeD, List.set, dChain])
local macro_rules | `(tactic| walk_at "s1") => `(tactic| (fail))
local macro_rules | `(tactic| walk_at "s1.ExG") => `(tactic| (fail))
local macro_rules | `(tactic| walk_at "s1.ArG") => `(tactic| (fail))
local macro_rules | `(tactic| walk_at "s1.OpG") => `(tactic| (fail))
local macro_rules | `(tactic| walk_at "s1.TgG") => `(tactic| (fail))
local macro_rules | `(tactic| walk_at "s1.StG") => `(tactic| (fail))
local macro_rules | `(tactic| walk_at "s1.TsG") => `(tactic| (fail))
local macro_rules | `(tactic| walk_at "s1.CbG") => `(tactic| (fail))
local macro_rules | `(tactic| walk_at "s1.ItG") => `(tactic| (fail))
local macro_rules | `(tactic| walk_at "s1.OgG") => `(tactic| (fail))
local macro_rules | `(tactic| walk_at "s1.TgsG") => `(tactic| (fail))
local macro_rules | `(tactic| walk_at "s1.SlG") => `(tactic| (fail))
local macro_rules | `(tactic| walk_at "s1") => `(tactic| (with_reducible refine n_mk ?_))
local macro_rules | `(tactic| walk_at "s1") => `(tactic| (with_reducible refine x_mk ?_))
local macro_rules | `(tactic| walk_at "s1") => `(tactic| (with_reducible refine t_mk ?_))
local macro_rules | `(tactic| walk_at "s1") => `(tactic| (with_reducible refine r_neg ?_))
local macro_rules | `(tactic| walk_at "s1") => `(tactic| (with_reducible refine r_chain ?_))
local macro_rules | `(tactic| walk_at "s1") => `(tactic| (with_reducible refine r_isi ?_))
local macro_rules | `(tactic| walk_at "s1") => `(tactic| (with_reducible refine r_sl ?_))
local macro_rules | `(tactic| walk_at "s1") => `(tactic| (with_reducible refine r_lc ?_))
local macro_rules | `(tactic| walk_at "s1") => `(tactic| (with_reducible refine r_or ?_))
local macro_rules | `(tactic| walk_at "s1") => `(tactic| (with_reducible refine r_and ?_))
local macro_rules | `(tactic| walk_at "s1") => `(tactic| (with_reducible refine r_not ?_))
local macro_rules | `(tactic| walk_at "s1") => `(tactic| (with_reducible refine r_if ?_))
local macro_rules | `(tactic| walk_at "s1") => `(tactic| (with_reducible refine r_notV ?_))
local macro_rules | `(tactic| walk_at "s1") => `(tactic| (with_reducible refine r_orV ?_))
local macro_rules | `(tactic| walk_at "s1") => `(tactic| (with_reducible refine r_andV ?_))
local macro_rules | `(tactic| walk_at "s1") => `(tactic| (with_reducible refine r_lst ?_))
local macro_rules | `(tactic| walk_at "s1") => `(tactic| (with_reducible refine r_tup ?_))
local macro_rules | `(tactic| walk_at "s1") => `(tactic| (with_reducible refine r_c ?_))
local macro_rules | `(tactic| walk_at "s1") => `(tactic| (with_reducible refine r_var ?_))
local macro_rules | `(tactic| walk_at "s1") => `(tactic| (with_reducible refine r_cb ?_))
local macro_rules | `(tactic| walk_at "s1") => `(tactic| (with_reducible refine r_exprZ ?_))
local macro_rules | `(tactic| walk_at "s1") => `(tactic| (with_reducible refine r_for ?_))
local macro_rules | `(tactic| walk_at "s1") => `(tactic| (with_reducible refine r_drop ?_))
local macro_rules | `(tactic| walk_at "s1") => `(tactic| (with_reducible refine r_asg ?_))
local macro_rules | `(tactic| walk_at "s1") => `(tactic| (with_reducible refine r_ifS ?_))
local macro_rules | `(tactic| walk_at "s1") => `(tactic| (with_reducible refine r_ret ?_))
local macro_rules | `(tactic| walk_at "s1") => `(tactic| (with_reducible refine r_stup ?_))
local macro_rules | `(tactic| walk_at "s1") => `(tactic| (with_reducible refine r_test ?_))
local macro_rules | `(tactic| walk_at "s1") => `(tactic| (with_reducible refine r_call ?_))
local macro_rules | `(tactic| walk_at "s1") => `(tactic| (with_reducible refine r_op ?_))
local macro_rules | `(tactic| walk_at "s1") => `(tactic| (with_reducible refine r_seq ?_))
local macro_rules | `(tactic| walk_at "s1") => `(tactic| (with_reducible refine r_name ?_))
local macro_rules | `(tactic| walk_at "s1") => `(tactic| (with_reducible refine r_rt ?_))
local macro_rules | `(tactic| walk_at "s1") => `(tactic| (with_reducible refine r_nx ?_))
local macro_rules | `(tactic| walk_at "s1") => `(tactic| ((with_reducible refine' w_mIsN ?wa ?wz); (case wa => rfl)))
local macro_rules | `(tactic| walk_at "s1") => `(tactic| ((with_reducible refine' w_mApp2 ?wa ?wv ?wz); (case wa => (first | assumption | exact look_new)); (case wv => (first | exact put_new | rfl))))
local macro_rules | `(tactic| walk_at "s1") => `(tactic| ((with_reducible refine' w_mApp ?wa ?wz); (case wa => (first | assumption | exact look_new))))
local macro_rules | `(tactic| walk_at "s1") => `(tactic| ((with_reducible refine' w_mFld (b := true) ?wa ?wv ?wz); (case wa => decide +kernel); (case wv => rfl)))
local macro_rules | `(tactic| walk_at "s1") => `(tactic| ((with_reducible refine w_mIsE (b := false) ?wa ?wz); (case wa => decide +kernel)))
local macro_rules | `(tactic| walk_at "s1") => `(tactic| ((with_reducible refine w_mIsE (b := true) ?wa ?wz); (case wa => decide +kernel)))
local macro_rules | `(tactic| walk_at "s1") => `(tactic| ((with_reducible refine w_mTryF ?wa ?wz); (case wa => decide +kernel)))
local macro_rules | `(tactic| walk_at "s1") => `(tactic| ((with_reducible refine' w_mTry ?wa ?wv ?wz); (case wa => decide +kernel); (case wv => (first | (simp only [setSlot, List.set]; done) | (simp only [setSlot, List.set]; rfl) | rfl))))
local macro_rules | `(tactic| walk_at "s1") => `(tactic| (with_reducible refine t_gone ?_))
local macro_rules | `(tactic| walk_at "s1") => `(tactic| ((with_reducible refine' n_gone ?wa ?wz); (case wa => (first | (simp only [setSlot, List.set]; done) | (simp only [setSlot, List.set]; rfl) | rfl))))
local macro_rules | `(tactic| walk_at "s1") => `(tactic| ((with_reducible refine w_mTryGF ?wa ?wz); (case wa => decide +kernel)))
local macro_rules | `(tactic| walk_at "s1") => `(tactic| ((with_reducible refine' w_mTryG ?wa ?wv ?wz); (case wa => decide +kernel); (case wv => (first | (simp only [setSlot, List.set]; done) | (simp only [setSlot, List.set]; rfl) | rfl))))
local macro_rules | `(tactic| walk_at "s1") => `(tactic| ((with_reducible refine w_mRng ?wa ?wz); (case wa => decide)))
local macro_rules | `(tactic| walk_at "s1") => `(tactic| ((with_reducible refine' w_mIsiF ?wa ?wc ?wz); (case wa => rfl); (case wc => rfl)))
local macro_rules | `(tactic| walk_at "s1") => `(tactic| ((with_reducible refine' w_mIsiT ?wa ?wc ?wz); (case wa => rfl); (case wc => rfl)))
local macro_rules | `(tactic| walk_at "s1") => `(tactic| (with_reducible refine w_mNot ?_))
local macro_rules | `(tactic| walk_at "s1") => `(tactic| ((with_reducible refine w_mNotF ?wa ?wz); (case wa => rfl)))
local macro_rules | `(tactic| walk_at "s1") => `(tactic| ((with_reducible refine w_mNotT ?wa ?wz); (case wa => rfl)))
local macro_rules | `(tactic| walk_at "s1") => `(tactic| ((with_reducible refine' w_mPar ?wa ?wz); (case wa => (first | (simp only [setSlot, startD]; done) | (simp only [setSlot, startD]; rfl) | rfl))))
local macro_rules | `(tactic| walk_at "s1") => `(tactic| (with_reducible refine w_mIsB ?_))
local macro_rules | `(tactic| walk_at "s1") => `(tactic| (with_reducible refine w_mChain ?_))
local macro_rules | `(tactic| walk_at "s1") => `(tactic| (with_reducible refine w_mEnum ?_))
local macro_rules | `(tactic| walk_at "s1") => `(tactic| (with_reducible refine w_mZip ?_))
local macro_rules | `(tactic| walk_at "s1") => `(tactic| (with_reducible refine w_mTupI ?_))
local macro_rules | `(tactic| walk_at "s1") => `(tactic| (with_reducible refine w_mSeqF ?_))
local macro_rules | `(tactic| walk_at "s1") => `(tactic| (with_reducible refine w_mSeq ?_))
local macro_rules | `(tactic| walk_at "s1") => `(tactic| (with_reducible refine w_mSome ?_))
local macro_rules | `(tactic| walk_at "s1") => `(tactic| (with_reducible refine w_mOr ?_))
local macro_rules | `(tactic| walk_at "s1") => `(tactic| (with_reducible refine w_mAnd ?_))
local macro_rules | `(tactic| walk_at "s1") => `(tactic| (with_reducible refine w_mNeg ?_))
local macro_rules | `(tactic| walk_at "s1") => `(tactic| (with_reducible refine c_wx ?_))
local macro_rules | `(tactic| walk_at "s1") => `(tactic| (with_reducible refine c_lp ?_))
local macro_rules | `(tactic| walk_at "s1") => `(tactic| (with_reducible refine c_wn ?_))
local macro_rules | `(tactic| walk_at "s1") => `(tactic| (with_reducible refine b_wx ?_))
local macro_rules | `(tactic| walk_at "s1") => `(tactic| (with_reducible refine b_lp ?_))
local macro_rules | `(tactic| walk_at "s1") => `(tactic| (with_reducible refine b_wn ?_))
local macro_rules | `(tactic| walk_at "s1.SlG") => `(tactic| (with_reducible refine w_sl_t ?_))
local macro_rules | `(tactic| walk_at "s1.SlG") => `(tactic| (with_reducible refine w_sl_s ?_))
local macro_rules | `(tactic| walk_at "s1.SlG") => `(tactic| (with_reducible refine w_sl_f ?_))
local macro_rules | `(tactic| walk_at "s1.SlG") => `(tactic| (with_reducible refine w_sl_l ?_))
local macro_rules | `(tactic| walk_at "s1") => `(tactic| ((with_reducible refine SlG.out ?_); (walk_at "s1.SlG")))
local macro_rules | `(tactic| walk_at "s1.OgG") => `(tactic| (with_reducible refine w_osome ?_))
local macro_rules | `(tactic| walk_at "s1.OgG") => `(tactic| (with_reducible refine w_onone ?_))
local macro_rules | `(tactic| walk_at "s1") => `(tactic| ((with_reducible refine OgG.out ?_); (walk_at "s1.OgG")))
local macro_rules | `(tactic| walk_at "s1.ItG") => `(tactic| (with_reducible refine w_itup ?_))
local macro_rules | `(tactic| walk_at "s1.ItG") => `(tactic| (with_reducible refine w_ienum ?_))
local macro_rules | `(tactic| walk_at "s1.ItG") => `(tactic| (with_reducible refine w_izip ?_))
local macro_rules | `(tactic| walk_at "s1.ItG") => `(tactic| (with_reducible refine w_iseq ?_))
local macro_rules | `(tactic| walk_at "s1") => `(tactic| ((with_reducible refine' w_mCallZ ?wa ?wv ?wc ?wz); (case wa => rfl); (case wv => rfl); (case wc => (first | (simp only [pick, List.append_nil, List.cons_append, List.nil_append, List.filterMap_cons, List.filterMap_nil, List.getElem?_cons_zero, List.getElem?_cons_succ]; done) | (simp only [pick, List.append_nil, List.cons_append, List.nil_append, List.filterMap_cons, List.filterMap_nil, List.getElem?_cons_zero, List.getElem?_cons_succ]; rfl) | rfl))))
local macro_rules | `(tactic| walk_at "s1") => `(tactic| ((with_reducible refine' w_mCallAZ ?wa ?wv ?wc ?wz); (case wa => rfl); (case wv => rfl); (case wc => (first | (simp only [pick, List.append_nil, List.cons_append, List.nil_append, List.filterMap_cons, List.filterMap_nil, List.getElem?_cons_zero, List.getElem?_cons_succ]; done) | (simp only [pick, List.append_nil, List.cons_append, List.nil_append, List.filterMap_cons, List.filterMap_nil, List.getElem?_cons_zero, List.getElem?_cons_succ]; rfl) | rfl))))
local macro_rules | `(tactic| walk_at "s1") => `(tactic| ((with_reducible refine' w_mCallA ?wa ?wv ?wc ?wz); (case wa => rfl); (case wv => rfl); (case wc => (first | (simp only [pick, List.append_nil, List.cons_append, List.nil_append, List.filterMap_cons, List.filterMap_nil, List.getElem?_cons_zero, List.getElem?_cons_succ]; done) | (simp only [pick, List.append_nil, List.cons_append, List.nil_append, List.filterMap_cons, List.filterMap_nil, List.getElem?_cons_zero, List.getElem?_cons_succ]; rfl) | rfl))))
local macro_rules | `(tactic| walk_at "s1") => `(tactic| ((with_reducible refine w_iteF ?wa ?wz); (case wa => rfl)))
local macro_rules | `(tactic| walk_at "s1") => `(tactic| ((with_reducible refine w_iteT ?wa ?wz); (case wa => rfl)))
local macro_rules | `(tactic| walk_at "s1") => `(tactic| ((with_reducible refine w_sizeL ?wa ?wz); (case wa => exact Nat.le_of_ble_eq_true rfl)))
local macro_rules | `(tactic| walk_at "s1.CbG") => `(tactic| (with_reducible refine w_str_i ?_))
local macro_rules | `(tactic| walk_at "s1.CbG") => `(tactic| (with_reducible refine w_str_l ?_))
local macro_rules | `(tactic| walk_at "s1.CbG") => `(tactic| (with_reducible refine w_str_s ?_))
local macro_rules | `(tactic| walk_at "s1.CbG") => `(tactic| (with_reducible refine w_tuple_t ?_))
local macro_rules | `(tactic| walk_at "s1.CbG") => `(tactic| (with_reducible refine w_tuple_l ?_))
local macro_rules | `(tactic| walk_at "s1.CbG") => `(tactic| (with_reducible refine w_list_t ?_))
local macro_rules | `(tactic| walk_at "s1.CbG") => `(tactic| (with_reducible refine w_list_f ?_))
local macro_rules | `(tactic| walk_at "s1.CbG") => `(tactic| (with_reducible refine w_list_l ?_))
local macro_rules | `(tactic| walk_at "s1.CbG") => `(tactic| (with_reducible refine w_abs ?_))
local macro_rules | `(tactic| walk_at "s1.CbG") => `(tactic| (with_reducible refine w_int_i ?_))
local macro_rules | `(tactic| walk_at "s1.CbG") => `(tactic| (with_reducible refine w_min2 ?_))
local macro_rules | `(tactic| walk_at "s1.CbG") => `(tactic| (with_reducible refine w_max2 ?_))
local macro_rules | `(tactic| walk_at "s1.CbG") => `(tactic| (with_reducible refine w_len_s ?_))
local macro_rules | `(tactic| walk_at "s1.CbG") => `(tactic| (with_reducible refine w_len_t ?_))
local macro_rules | `(tactic| walk_at "s1.CbG") => `(tactic| (with_reducible refine w_len_f ?_))
local macro_rules | `(tactic| walk_at "s1.CbG") => `(tactic| (with_reducible refine w_repr ?_))
local macro_rules | `(tactic| walk_at "s1.CbG") => `(tactic| (with_reducible refine w_len_l ?_))
local macro_rules | `(tactic| walk_at "s1.TsG") => `(tactic| (with_reducible refine w_tru ?_))
local macro_rules | `(tactic| walk_at "s1.TsG") => `(tactic| (with_reducible refine w_yes ?_))
local macro_rules | `(tactic| walk_at "s1.TsG") => `(tactic| (with_reducible refine w_and ?_))
local macro_rules | `(tactic| walk_at "s1.TsG") => `(tactic| (with_reducible refine w_or ?_))
local macro_rules | `(tactic| walk_at "s1.TsG") => `(tactic| (with_reducible refine w_not ?_))
local macro_rules | `(tactic| walk_at "s1.StG") => `(tactic| (with_reducible refine w_cont ?_))
local macro_rules | `(tactic| walk_at "s1.StG") => `(tactic| (with_reducible refine w_break ?_))
local macro_rules | `(tactic| walk_at "s1.StG") => `(tactic| (with_reducible refine w_retN ?_))
local macro_rules | `(tactic| walk_at "s1.StG") => `(tactic| (with_reducible refine w_raiseI ?_))
local macro_rules | `(tactic| walk_at "s1.StG") => `(tactic| (with_reducible refine w_raise ?_))
local macro_rules | `(tactic| walk_at "s1.StG") => `(tactic| (with_reducible refine w_try ?_))
local macro_rules | `(tactic| walk_at "s1.StG") => `(tactic| (with_reducible refine w_tryG ?_))
local macro_rules | `(tactic| walk_at "s1.StG") => `(tactic| (with_reducible refine w_tryG0 ?_))
local macro_rules | `(tactic| walk_at "s1.StG") => `(tactic| (with_reducible refine w_try0 ?_))
local macro_rules | `(tactic| walk_at "s1.StG") => `(tactic| (with_reducible refine w_asgZ ?_))
local macro_rules | `(tactic| walk_at "s1.StG") => `(tactic| (with_reducible refine w_retZ ?_))
local macro_rules | `(tactic| walk_at "s1.StG") => `(tactic| (with_reducible refine w_exprZ ?_))
local macro_rules | `(tactic| walk_at "s1.StG") => `(tactic| (with_reducible refine w_par ?_))
local macro_rules | `(tactic| walk_at "s1.StG") => `(tactic| (with_reducible refine w_next ?_))
local macro_rules | `(tactic| walk_at "s1") => `(tactic| (with_reducible refine t_wx ?_))
local macro_rules | `(tactic| walk_at "s1") => `(tactic| (with_reducible refine x_wx ?_))
local macro_rules | `(tactic| walk_at "s1") => `(tactic| (with_reducible refine x_lp ?_))
local macro_rules | `(tactic| walk_at "s1") => `(tactic| (with_reducible refine x_wn ?_))
local macro_rules | `(tactic| walk_at "s1") => `(tactic| (with_reducible refine n_wx ?_))
local macro_rules | `(tactic| walk_at "s1") => `(tactic| (with_reducible refine t_lp ?_))
local macro_rules | `(tactic| walk_at "s1") => `(tactic| (with_reducible refine t_wn ?_))
local macro_rules | `(tactic| walk_at "s1.TgG") => `(tactic| ((with_reducible refine w_stup ?wa ?wz); (case wa => rfl)))
local macro_rules | `(tactic| walk_at "s1.OpG") => `(tactic| (with_reducible refine w_notIs ?_))
local macro_rules | `(tactic| walk_at "s1.OpG") => `(tactic| (with_reducible refine w_is ?_))
local macro_rules | `(tactic| walk_at "s1.OpG") => `(tactic| ((with_reducible refine' w_add_ol ?wa ?wz); (case wa => (first | assumption | exact look_new))))
local macro_rules | `(tactic| walk_at "s1.OpG") => `(tactic| (with_reducible refine w_notIn_t ?_))
local macro_rules | `(tactic| walk_at "s1.OpG") => `(tactic| (with_reducible refine w_notIn_l ?_))
local macro_rules | `(tactic| walk_at "s1.OpG") => `(tactic| (with_reducible refine w_in_t ?_))
local macro_rules | `(tactic| walk_at "s1.OpG") => `(tactic| (with_reducible refine w_in_l ?_))
local macro_rules | `(tactic| walk_at "s1.OpG") => `(tactic| (with_reducible refine w_ne_tt ?_))
local macro_rules | `(tactic| walk_at "s1.OpG") => `(tactic| (with_reducible refine w_ne_lc ?_))
local macro_rules | `(tactic| walk_at "s1.OpG") => `(tactic| (with_reducible refine w_eq_tt ?_))
local macro_rules | `(tactic| walk_at "s1.OpG") => `(tactic| (with_reducible refine w_eq_lc ?_))
local macro_rules | `(tactic| walk_at "s1.OpG") => `(tactic| (with_reducible refine w_mul_l ?_))
local macro_rules | `(tactic| walk_at "s1.OpG") => `(tactic| (with_reducible refine w_add_ss ?_))
local macro_rules | `(tactic| walk_at "s1.OpG") => `(tactic| (with_reducible refine w_ne_bb ?_))
local macro_rules | `(tactic| walk_at "s1.OpG") => `(tactic| (with_reducible refine w_eq_bb ?_))
local macro_rules | `(tactic| walk_at "s1.OpG") => `(tactic| (with_reducible refine w_ne_l0 ?_))
local macro_rules | `(tactic| walk_at "s1.OpG") => `(tactic| (with_reducible refine w_eq_l0 ?_))
local macro_rules | `(tactic| walk_at "s1.OpG") => `(tactic| (with_reducible refine w_add_ll ?_))
local macro_rules | `(tactic| walk_at "s1.OpG") => `(tactic| ((with_reducible refine' w_pow ?wa ?wc ?wz); (case wa => decide); (case wc => (first | exact t9 | exact t6 | exact t18 | exact t39 | exact t58 | exact t30))))
local macro_rules | `(tactic| walk_at "s1.OpG") => `(tactic| (with_reducible refine w_mod ?_))
local macro_rules | `(tactic| walk_at "s1.OpG") => `(tactic| (with_reducible refine w_div ?_))
local macro_rules | `(tactic| walk_at "s1.OpG") => `(tactic| (with_reducible refine w_ne_ss ?_))
local macro_rules | `(tactic| walk_at "s1.OpG") => `(tactic| (with_reducible refine w_eq_ss ?_))
local macro_rules | `(tactic| walk_at "s1.OpG") => `(tactic| (with_reducible refine w_ge ?_))
local macro_rules | `(tactic| walk_at "s1.OpG") => `(tactic| (with_reducible refine w_le ?_))
local macro_rules | `(tactic| walk_at "s1.OpG") => `(tactic| (with_reducible refine w_gt ?_))
local macro_rules | `(tactic| walk_at "s1.OpG") => `(tactic| (with_reducible refine w_lt ?_))
local macro_rules | `(tactic| walk_at "s1.OpG") => `(tactic| (with_reducible refine w_ne_ii ?_))
local macro_rules | `(tactic| walk_at "s1.OpG") => `(tactic| (with_reducible refine w_eq_ii ?_))
local macro_rules | `(tactic| walk_at "s1.OpG") => `(tactic| ((with_reducible refine' w_ix_l ?wa ?wz); (case wa => (first | exact w_at0 _ _ | exact w_at1 _ _ _ | exact w_at2 _ _ _ _ | exact w_at3 _ _ _ _ _))))
local macro_rules | `(tactic| walk_at "s1.OpG") => `(tactic| ((with_reducible refine' w_ix_t ?wa ?wz); (case wa => (first | exact w_at0 _ _ | exact w_at1 _ _ _ | exact w_at2 _ _ _ _ | exact w_at3 _ _ _ _ _))))
local macro_rules | `(tactic| walk_at "s1.ExG") => `(tactic| (with_reducible refine w_edic ?_))
local macro_rules | `(tactic| walk_at "s1.ExG") => `(tactic| (with_reducible refine w_neg ?_))
local macro_rules | `(tactic| walk_at "s1.ExG") => `(tactic| (with_reducible refine w_chain ?_))
local macro_rules | `(tactic| walk_at "s1.ExG") => `(tactic| (with_reducible refine w_fld ?_))
local macro_rules | `(tactic| walk_at "s1.ExG") => `(tactic| (with_reducible refine w_isE ?_))
local macro_rules | `(tactic| walk_at "s1.ExG") => `(tactic| (with_reducible refine w_callAZ ?_))
local macro_rules | `(tactic| walk_at "s1.ExG") => `(tactic| (with_reducible refine w_callA ?_))
local macro_rules | `(tactic| walk_at "s1.ExG") => `(tactic| (with_reducible refine w_callZ ?_))
local macro_rules | `(tactic| walk_at "s1.ExG") => `(tactic| (with_reducible refine w_sl ?_))
local macro_rules | `(tactic| walk_at "s1.ExG") => `(tactic| (with_reducible refine w_isi ?_))
local macro_rules | `(tactic| walk_at "s1.ExG") => `(tactic| (with_reducible refine w_if ?_))
local macro_rules | `(tactic| walk_at "s1.ExG") => `(tactic| (with_reducible refine w_notV ?_))
local macro_rules | `(tactic| walk_at "s1.ExG") => `(tactic| (with_reducible refine w_orV ?_))
local macro_rules | `(tactic| walk_at "s1.ExG") => `(tactic| (with_reducible refine w_andV ?_))
local macro_rules | `(tactic| walk_at "s1.OpG") => `(tactic| (with_reducible refine w_add_tt ?_))
local macro_rules | `(tactic| walk_at "s1") => `(tactic| (with_reducible refine t_gone ?_))
local macro_rules | `(tactic| walk_at "s1") => `(tactic| ((with_reducible refine' c_gone ?wa ?wz); (case wa => (first | (simp only [setSlot, List.set]; done) | (simp only [setSlot, List.set]; rfl) | rfl))))
local macro_rules | `(tactic| walk_at "s1") => `(tactic| ((with_reducible refine' b_gone ?wa ?wz); (case wa => (first | (simp only [setSlot, List.set]; done) | (simp only [setSlot, List.set]; rfl) | rfl))))
local macro_rules | `(tactic| walk_at "s1") => `(tactic| ((with_reducible refine' n_gone ?wa ?wz); (case wa => (first | (simp only [setSlot, List.set]; done) | (simp only [setSlot, List.set]; rfl) | rfl))))
local macro_rules | `(tactic| walk_at "s1.CbG") => `(tactic| (with_reducible refine w_listM_l ?_))
local macro_rules | `(tactic| walk_at "s1.CbG") => `(tactic| (with_reducible refine w_listM_t ?_))
local macro_rules | `(tactic| walk_at "s1.OpG") => `(tactic| (with_reducible refine w_addM ?_))
local macro_rules | `(tactic| walk_at "s1.StG") => `(tactic| ((with_reducible refine' w_frzS ?wa ?wb ?wc ?wd ?wz); (case wa => rfl); (case wb => (first | assumption | exact look_new)); (case wc => (first | (simp only [setSlot, startD]; done) | (simp only [setSlot, startD]; rfl) | rfl)); (case wd => (first | exact drp_new | rfl))))
local macro_rules | `(tactic| walk_at "s1.ExG") => `(tactic| ((with_reducible refine' w_loan ?wa ?wb ?wc ?wd ?wz); (case wa => rfl); (case wb => (first | assumption | exact look_new)); (case wc => (first | (simp only [setSlot, startD]; done) | (simp only [setSlot, startD]; rfl) | rfl)); (case wd => (first | exact drp_new | rfl))))
local macro_rules | `(tactic| walk_at "s1.ExG") => `(tactic| (with_reducible refine w_lcM ?_))
local macro_rules | `(tactic| walk_at "s1") => `(tactic| (with_reducible refine w_mCnt ?_))
local macro_rules | `(tactic| walk_at "s1") => `(tactic| ((with_reducible refine w_lenq ?wa ?wz); (case wa => rfl)))
local macro_rules | `(tactic| walk_at "s1.ExG") => `(tactic| (with_reducible refine w_count ?_))
local macro_rules | `(tactic| walk_at "s1.ExG") => `(tactic| (with_reducible refine w_mkI ?_))
local macro_rules | `(tactic| walk_at "s1.ExG") => `(tactic| (with_reducible refine w_mk0 ?_))
local macro_rules | `(tactic| walk_at "s1.CbG") => `(tactic| (with_reducible refine w_divmod ?_))
local macro_rules | `(tactic| walk_at "s1.OpG") => `(tactic| (with_reducible refine w_notInSign ?_))
local macro_rules | `(tactic| walk_at "s1.OpG") => `(tactic| (with_reducible refine w_inSign ?_))
local macro_rules | `(tactic| walk_at "s1") => `(tactic| (with_reducible refine w_mMaxD ?_))
local macro_rules | `(tactic| walk_at "s1") => `(tactic| (with_reducible refine w_mJs ?_))
local macro_rules | `(tactic| walk_at "s1") => `(tactic| (with_reducible refine w_jsC ?_))
local macro_rules | `(tactic| walk_at "s1") => `(tactic| (with_reducible refine w_jsN ?_))
local macro_rules | `(tactic| walk_at "s1") => `(tactic| (with_reducible refine w_mFmtI ?_))
local macro_rules | `(tactic| walk_at "s1") => `(tactic| (with_reducible refine w_mFmtS ?_))
local macro_rules | `(tactic| walk_at "s1") => `(tactic| (with_reducible refine w_mJr ?_))
local macro_rules | `(tactic| walk_at "s1") => `(tactic| (with_reducible refine w_remSuf ?_))
local macro_rules | `(tactic| walk_at "s1") => `(tactic| (with_reducible refine w_zfill ?_))
local macro_rules | `(tactic| walk_at "s1") => `(tactic| (with_reducible refine w_split ?_))
local macro_rules | `(tactic| walk_at "s1") => `(tactic| (with_reducible refine w_ends ?_))
local macro_rules | `(tactic| walk_at "s1") => `(tactic| (with_reducible refine w_starts ?_))
local macro_rules | `(tactic| walk_at "s1") => `(tactic| (with_reducible refine w_part ?_))
local macro_rules | `(tactic| walk_at "s1") => `(tactic| (with_reducible refine w_mM1 ?_))
local macro_rules | `(tactic| walk_at "s1.ExG") => `(tactic| (with_reducible refine w_maxDef ?_))
local macro_rules | `(tactic| walk_at "s1.ExG") => `(tactic| (with_reducible refine w_joined ?_))
local macro_rules | `(tactic| walk_at "s1.ExG") => `(tactic| (with_reducible refine w_fmt ?_))
local macro_rules | `(tactic| walk_at "s1.ExG") => `(tactic| (with_reducible refine w_joinRev ?_))
local macro_rules | `(tactic| walk_at "s1.ExG") => `(tactic| (with_reducible refine w_m1 ?_))
local macro_rules | `(tactic| walk_at "s1.OpG") => `(tactic| ((with_reducible refine' w_pow ?wa ?wc ?wz); (case wa => decide); (case wc => (first | exact t56 | exact t60 | exact t40 | exact t50 | exact t59))))
local macro_rules | `(tactic| walk_at "s1") => `(tactic| (with_reducible refine r_append ?_))
local macro_rules | `(tactic| walk_at "s1") => `(tactic| (with_reducible refine r_frz ?_))
local macro_rules | `(tactic| walk_at "s1") => `(tactic| (with_reducible refine r_joined ?_))
local macro_rules | `(tactic| walk_at "s1") => `(tactic| (with_reducible refine r_m1 ?_))
local macro_rules | `(tactic| walk_at "s1") => `(tactic| (with_reducible refine r_lcM ?_))
local macro_rules | `(tactic| walk_at "s1") => `(tactic| (with_reducible refine r_setIx ?_))
local macro_rules | `(tactic| walk_at "s1") => `(tactic| (with_reducible refine r_frzS ?_))
local macro_rules | `(tactic| walk_at "s1") => `(tactic| (with_reducible refine w_mStrI ?_))
local macro_rules | `(tactic| walk_at "s1.ItG") => `(tactic| (with_reducible refine w_irng3 ?_))
local macro_rules | `(tactic| walk_at "s1.ItG") => `(tactic| (with_reducible refine w_istr ?_))
local macro_rules | `(tactic| walk_at "s1") => `(tactic| (with_reducible refine w_truI ?_))
local macro_rules | `(tactic| walk_at "s1") => `(tactic| (with_reducible refine w_truL ?_))
local macro_rules | `(tactic| walk_at "s1") => `(tactic| (with_reducible refine w_truB ?_))
local macro_rules | `(tactic| walk_at "s1.TgG") => `(tactic| ((with_reducible refine w_slst ?wa ?wz); (case wa => rfl)))
local macro_rules | `(tactic| walk_at "s1") => `(tactic| (with_reducible refine w_mTest ?_))
local macro_rules | `(tactic| walk_at "s1.TsG") => `(tactic| (with_reducible refine w_test ?_))
local macro_rules | `(tactic| walk_at "s1.StG") => `(tactic| (with_reducible refine w_ifS ?_))
local macro_rules | `(tactic| walk_at "s1.CbG") => `(tactic| (with_reducible refine w_int_b ?_))
local macro_rules | `(tactic| walk_at "s1.ExG") => `(tactic| (with_reducible refine w_lc (fun _ => rfl) ?_))
local macro_rules | `(tactic| walk_at "s1") => `(tactic| ((with_reducible refine TgsG.out ?_); (walk_at "s1.TgsG")))
local macro_rules | `(tactic| walk_at "s1") => `(tactic| ((with_reducible refine ItG.out ?_); (walk_at "s1.ItG")))
local macro_rules | `(tactic| walk_at "s1") => `(tactic| ((with_reducible refine TsG.out ?_); (walk_at "s1.TsG")))
local macro_rules | `(tactic| walk_at "s1") => `(tactic| ((with_reducible refine CbG.out ?_); (walk_at "s1.CbG")))
local macro_rules | `(tactic| walk_at "s1") => `(tactic| (with_reducible refine n_lp ?_))
local macro_rules | `(tactic| walk_at "s1.ExG") => `(tactic| (with_reducible refine w_cb ?_))
local macro_rules | `(tactic| walk_at "s1.StG") => `(tactic| (with_reducible refine w_for ?_))
local macro_rules | `(tactic| walk_at "s1.ExG") => `(tactic| (with_reducible refine w_lstM ?_))
local macro_rules | `(tactic| walk_at "s1") => `(tactic| ((with_reducible refine' w_mFrz ?wa ?wv ?wz); (case wa => (first | assumption | exact look_new)); (case wv => (first | exact drp_new | rfl))))
local macro_rules | `(tactic| walk_at "s1.StG") => `(tactic| (with_reducible refine w_ret ?_))
local macro_rules | `(tactic| walk_at "s1.StG") => `(tactic| (with_reducible refine w_setIx ?_))
local macro_rules | `(tactic| walk_at "s1.TgsG") => `(tactic| (with_reducible refine w_snil ?_))
local macro_rules | `(tactic| walk_at "s1.ExG") => `(tactic| (with_reducible refine w_frz ?_))
local macro_rules | `(tactic| walk_at "s1.ExG") => `(tactic| (with_reducible refine w_append ?_))
local macro_rules | `(tactic| walk_at "s1.StG") => `(tactic| (with_reducible refine w_drop ?_))
local macro_rules | `(tactic| walk_at "s1.ItG") => `(tactic| (with_reducible refine w_irng1 ?_))
local macro_rules | `(tactic| walk_at "s1.OpG") => `(tactic| (with_reducible refine w_mul ?_))
local macro_rules | `(tactic| walk_at "s1.ExG") => `(tactic| (with_reducible refine w_tup ?_))
local macro_rules | `(tactic| walk_at "s1.ExG") => `(tactic| (with_reducible refine w_lst ?_))
local macro_rules | `(tactic| walk_at "s1.OpG") => `(tactic| (with_reducible refine w_sub ?_))
local macro_rules | `(tactic| walk_at "s1.OpG") => `(tactic| (with_reducible refine w_add_ii ?_))
local macro_rules | `(tactic| walk_at "s1.TgsG") => `(tactic| (with_reducible refine w_scons ?_))
local macro_rules | `(tactic| walk_at "s1.ExG") => `(tactic| (with_reducible refine w_call ?_))
local macro_rules | `(tactic| walk_at "s1") => `(tactic| ((with_reducible refine' w_mCall ?wa ?wv ?wc ?wz); (case wa => rfl); (case wv => rfl); (case wc => (first | (simp only [pick, List.append_nil, List.cons_append, List.nil_append, List.filterMap_cons, List.filterMap_nil, List.getElem?_cons_zero, List.getElem?_cons_succ]; done) | (simp only [pick, List.append_nil, List.cons_append, List.nil_append, List.filterMap_cons, List.filterMap_nil, List.getElem?_cons_zero, List.getElem?_cons_succ]; rfl) | rfl))))
local macro_rules | `(tactic| walk_at "s1") => `(tactic| ((with_reducible refine w_size ?wa ?wz); (case wa => exact Nat.le_of_ble_eq_true rfl)))
local macro_rules | `(tactic| walk_at "s1.StG") => `(tactic| (with_reducible refine w_asg ?_))
local macro_rules | `(tactic| walk_at "s1") => `(tactic| (with_reducible refine n_wn ?_))
local macro_rules | `(tactic| walk_at "s1.StG") => `(tactic| (with_reducible refine w_seq ?_))
local macro_rules | `(tactic| walk_at "s1.TgG") => `(tactic| ((with_reducible refine' w_name ?wa ?wz); (case wa => (first | (simp only [setSlot, startD]; done) | (simp only [setSlot, startD]; rfl) | rfl))))
local macro_rules | `(tactic| walk_at "s1.ExG") => `(tactic| (with_reducible refine w_op ?_))
local macro_rules | `(tactic| walk_at "s1.ExG") => `(tactic| (with_reducible refine w_c ?_))
local macro_rules | `(tactic| walk_at "s1.ArG") => `(tactic| (with_reducible refine w_anil ?_))
local macro_rules | `(tactic| walk_at "s1.ArG") => `(tactic| (with_reducible refine w_acons ?_))
local macro_rules | `(tactic| walk_at "s1.ExG") => `(tactic| ((with_reducible refine' w_var ?wa ?wz); (case wa => rfl)))
local macro_rules | `(tactic| walk_at "s1") => `(tactic| ((with_reducible refine StG.out ?_); (walk_at "s1.StG")))
local macro_rules | `(tactic| walk_at "s1") => `(tactic| ((with_reducible refine TgG.out ?_); (walk_at "s1.TgG")))
local macro_rules | `(tactic| walk_at "s1") => `(tactic| ((with_reducible refine OpG.out ?_); (walk_at "s1.OpG")))
local macro_rules | `(tactic| walk_at "s1") => `(tactic| ((with_reducible refine ArG.out ?_); (walk_at "s1.ArG")))
local macro_rules | `(tactic| walk_at "s1") => `(tactic| ((with_reducible refine ExG.out ?_); (walk_at "s1.ExG")))
local macro_rules | `(tactic| walk_at "st") => `(tactic| repeat (walk_at "s1"))
theorem loop_inv {g : DG} {tb : DTS} {E : EN} (I : DS → MS → Prop) : ∀ (xs : List D) (ds : DS) (ms : MS), I ds ms →
    (∀ x ∈ xs, ∀ ds ms, I ds ms → ∀ N : DS → MS → Prop, (∀ ds' ms', I ds' ms' → N ds' ms') → g x ds fun ds1 => tb (EN.lp E N) ds1 ms) →
    (∀ ds ms, I ds ms → E.nx ds ms) → loopD g tb E xs ds ms
  | [], ds, ms, h, _, q => q ds ms h
  | x :: r, ds, ms, h, t, q => t x List.mem_cons_self ds ms h _ fun ds' ms' h' => loop_inv I r ds' ms' h' (fun y hy => t y (List.mem_cons_of_mem _ hy)) q
theorem cut_to {α : Type} (xs : List α) (n : Nat) (h : n ≤ xs.length) : cutL xs none (some (n : Int)) = xs.take n := by
  unfold cutL
  rw [show HT.sIx xs.length xs.length (some (n : Int)) = min n xs.length from HT.sIx_nat _ _ n, HT.sIx_none, Nat.min_eq_left h]
  rfl
/-- a fraction so large -/
structure FB (n m : Nat) (t : Int × Int) : Prop where
  top : Bd n t.1
  bot : Bd m t.2
  pos : 0 < t.2
  nil : t.1 = 0 → t.2 = 1
theorem FB.mono {n m n' m' : Nat} {t : Int × Int} (h : FB n m t) (h1 : n ≤ n') (h2 : m ≤ m') : FB n' m' t := ⟨h.top.mono h1, h.bot.mono h2, h.pos, h.nil⟩
theorem FB.ne {n m : Nat} {t : Int × Int} (h : FB n m t) : t.2 ≠ 0 := by have := h.pos; omega
structure Low (p : Int × Int) : Prop where
  pos : 0 < p.2
  cop : Int.gcd p.1 p.2 = 1
theorem Low.ne {p : Int × Int} (h : Low p) : p.2 ≠ 0 := by have := h.pos; omega
inductive Any (c : Bool) (n L : Nat) : Nat → D → Prop
  | non {k : Nat} : Any c n L k .non
  | bl {k : Nat} (b : Bool) : Any c n L k (.bl b)
  | int {k : Nat} {i : Int} : Bd n i → Any c n L k (.int i)
  | str {k : Nat} {x : Str} : x.length ≤ L → x.cps.all (· < 0x110000) = true → Any c n L k (.str x)
  | edic {k : Nat} : c = true → Any c n L k .edic
  | lst {k : Nat} {xs : List D} : xs.length ≤ L → (∀ x ∈ xs, Any c n L k x) → Any c n L (k + 1) (.lst xs)
  | tup {k : Nat} {xs : List D} : xs.length ≤ L → (∀ x ∈ xs, Any c n L k x) → Any c n L (k + 1) (.tup xs)
theorem Any.mono {c c' : Bool} {n n' L L' k : Nat} {d : D} (h : Any c n L k d) (hc : c = true → c' = true) (hn : n ≤ n') (hL : L ≤ L') : ∀ {k' : Nat}, k ≤ k' → Any c' n' L' k' d := by
  induction h with
  | non => intro k' _; exact .non
  | bl b => intro k' _; exact .bl b
  | int h => intro k' _; exact .int (h.mono hn)
  | str h1 h2 => intro k' _; exact .str (by omega) h2
  | edic h => intro k' _; exact .edic (hc h)
  | lst h1 h2 ih =>
    intro k' hk
    obtain ⟨j, rfl⟩ : ∃ j, k' = j + 1 := ⟨k' - 1, by omega⟩
    exact .lst (by omega) fun x hx => ih x hx (by omega)
  | tup h1 h2 ih =>
    intro k' hk
    obtain ⟨j, rfl⟩ : ∃ j, k' = j + 1 := ⟨k' - 1, by omega⟩
    exact .tup (by omega) fun x hx => ih x hx (by omega)
theorem Any.up {c : Bool} {n L k k' : Nat} {d : D} (h : Any c n L k d) (hk : k ≤ k') : Any c n L k' d := h.mono id (Nat.le_refl _) (Nat.le_refl _) hk
theorem Any.ty {c : Bool} {n L k : Nat} {d : D} (h : Any c n L k d) : ∃ a, tyD d = some a := by cases h <;> exact ⟨_, rfl⟩
theorem any_pys {c : Bool} {n L k : Nat} : ∀ xs : List D, (∀ x ∈ xs, c = false → ∃ p, toPy x = some p ∧ p.canLay0 = true ∧ p.depth ≤ k) → c = false → ∃ ps, toPys xs = some ps ∧ PyData.canLayAll0 ps = true ∧ PyData.depthAll ps ≤ k
  | [], _, _ => ⟨[], rfl, rfl, Nat.zero_le _⟩
  | x :: r, h, hc => by
    obtain ⟨p, a, b, e⟩ := h x List.mem_cons_self hc
    obtain ⟨ps, a2, b2, e2⟩ := any_pys (n := n) (L := L) r (fun y hy => h y (List.mem_cons_of_mem _ hy)) hc
    exact ⟨p :: ps, by unfold toPys; rw [a, a2], Bool.and_eq_true_iff.mpr ⟨b, b2⟩, Nat.max_le.mpr ⟨e, e2⟩⟩
theorem Any.py {c : Bool} {n L k : Nat} {d : D} (h : Any c n L k d) : c = false → ∃ p, toPy d = some p ∧ p.canLay0 = true ∧ p.depth ≤ k := by
  induction h with
  | non => exact fun _ => ⟨_, rfl, rfl, Nat.zero_le _⟩
  | bl b => exact fun _ => ⟨_, rfl, rfl, Nat.zero_le _⟩
  | int h => exact fun _ => ⟨_, rfl, rfl, Nat.zero_le _⟩
  | str h1 h2 => exact fun _ => ⟨_, rfl, h2, Nat.zero_le _⟩
  | edic h => exact fun hc => by rw [hc] at h; cases h
  | lst h1 h2 ih =>
    intro hc
    obtain ⟨ps, a, b, e⟩ := any_pys (n := n) (L := L) _ ih hc
    exact ⟨.list ps, by unfold toPy; rw [a]; rfl, b, Nat.succ_le_succ e⟩
  | tup h1 h2 ih =>
    intro hc
    obtain ⟨ps, a, b, e⟩ := any_pys (n := n) (L := L) _ ih hc
    exact ⟨.tuple ps, by unfold toPy; rw [a]; rfl, b, Nat.succ_le_succ e⟩
theorem Any.sh {n L k : Nat} {d : D} (h : Any false n L k d) (hk : k ≤ 60) : ShD d := by
  obtain ⟨p, a, b, e⟩ := h.py rfl
  refine ⟨p, a, ?_⟩
  unfold SeqAt.shaped
  rw [b, decide_eq_true (by omega : p.depth ≤ 64)]; rfl
/-- any data: ints below 2 ^ n -/
structure AnyX (n : Nat) (d : D) : Prop where
  ex : ∃ k, Any true n 1000 k d
theorem AnyX.ty {n : Nat} {d : D} (h : AnyX n d) : ∃ a, tyD d = some a := h.ex.elim fun _ h => h.ty
theorem AnyX.mono {n n' : Nat} {d : D} (h : AnyX n d) (hn : n ≤ n') : AnyX n' d := h.ex.elim fun k h => ⟨k, h.mono id hn (Nat.le_refl _) (Nat.le_refl _)⟩
theorem AnyX.lst {n : Nat} {xs : List D} (h : AnyX n (.lst xs)) : xs.length ≤ 1000 ∧ ∀ x ∈ xs, AnyX n x := h.ex.elim fun k h => by
  cases h with
  | lst h1 h2 => exact ⟨h1, fun x hx => ⟨_, h2 x hx⟩⟩
theorem AnyX.tup {n : Nat} {xs : List D} (h : AnyX n (.tup xs)) : xs.length ≤ 1000 ∧ ∀ x ∈ xs, AnyX n x := h.ex.elim fun k h => by
  cases h with
  | tup h1 h2 => exact ⟨h1, fun x hx => ⟨_, h2 x hx⟩⟩
theorem AnyX.int {n : Nat} {i : Int} (h : AnyX n (.int i)) : Bd n i := h.ex.elim fun k h => by
  cases h with
  | int h => exact h
local macro_rules | `(tactic| walk_at "s1") => `(tactic| (with_reducible refine w_mRevL ?_))
local macro_rules | `(tactic| walk_at "s1.ExG") => `(tactic| (with_reducible refine w_revL ?_))
/-- a wish: least or just -/
def wdD (j : Bool) : D := .str (if j then "just" else "least")
/-- wishes, as they are drawn -/
structure Wi where
  j : Bool
  l : Int
  fs : List Int
def wiD (w : Wi) : D := .tup [wdD w.j, .lst (.int w.l :: w.fs.map D.int)]
def Wi.ls (w : Wi) : List Int := w.l :: w.fs
theorem wiD_ls (w : Wi) : wiD w = .tup [wdD w.j, .lst (w.ls.map D.int)] := rfl
structure Rw where
  s : Int
  t : Int
  ws : List Wi
def rwD (r : Rw) : D := .tup [.int r.s, .int r.t, .lst (r.ws.map wiD)]
structure Pg where
  nm : List Str
  pm : List Str
  rs : List Rw
def pgD (g : Pg) : D := .tup [.lst (g.nm.map D.str), .lst (g.pm.map D.str), .lst (g.rs.map rwD)]
/-- a name: one to six small letters -/
def goodNm (x : Str) : Bool := decide (1 ≤ x.length) && decide (x.length ≤ 6) && x.cps.toList.all fun c => decide (97 ≤ c) && decide (c < 123)
structure NmOk (most : Nat) (xs : List Str) : Prop where
  l1 : 1 ≤ xs.length
  l2 : xs.length ≤ most
  nd : xs.Nodup
  ok : ∀ x ∈ xs, goodNm x = true
structure WiOk (B n : Nat) (w : Wi) : Prop where
  bd : ∀ x ∈ w.ls, Bd B x
  ln : w.fs.length = n
structure RwOk (B sz pl : Nat) (r : Rw) : Prop where
  s0 : 0 ≤ r.s
  s1 : r.s < pl
  t0 : 0 ≤ r.t
  t1 : r.t < pl
  wl : r.ws.length ≤ 12
  wo : ∀ w ∈ r.ws, WiOk B (2 * sz) w
structure PgOk (B : Nat) (g : Pg) : Prop where
  nm : NmOk 3 g.nm
  pm : NmOk 6 g.pm
  rl : g.rs.length ≤ 10
  ro : ∀ r ∈ g.rs, RwOk B g.nm.length g.pm.length r
theorem WiOk.mono {B B' n : Nat} {w : Wi} (h : WiOk B n w) (hb : B ≤ B') : WiOk B' n w := ⟨fun x hx => (h.bd x hx).mono hb, h.ln⟩
/-- the number of one of so many -/
def isAt (n : Int) (d : D) : Bool := match d with
  | .int i => decide (0 ≤ i) && decide (i < n)
  | _ => false
theorem nm_ok {x : Str} (h : goodNm x = true) : x.cps.all (· < 0x110000) = true := by
  unfold goodNm at h
  rw [Bool.and_eq_true_iff, Bool.and_eq_true_iff] at h
  obtain ⟨⟨h1, h2⟩, h3⟩ := h
  rw [Array.all_eq_true']
  intro c hc
  have h4 := List.all_eq_true.mp h3 c (Array.mem_toList_iff.mpr hc)
  rw [Bool.and_eq_true_iff] at h4
  have h5 := of_decide_eq_true h4.2
  exact decide_eq_true (by omega)
theorem enum_mem {α : Type} {f : α → D} {xs : List α} {d : D} (h : d ∈ enumD (xs.map f)) : ∃ (k : Nat) (hk : k < xs.length), d = .tup [.int (k : Int), f xs[k]] := by
  unfold enumD at h
  obtain ⟨k, hk, e⟩ := List.mem_iff_getElem.mp h
  rw [List.length_zipWith, rng_len, List.length_map] at hk
  have hk' : k < xs.length := by omega
  refine ⟨k, hk', ?_⟩
  rw [List.getElem_zipWith] at e
  rw [← e]
  unfold rng
  simp
theorem size_ok {n : Nat} (h : n ≤ 1000) : n ≤ sizeLine := Nat.le_trans h (by decide)
theorem all_true {α : Type} (f : α → D) (hf : ∀ x, f x = .bl true) : ∀ xs : List α, ∃ bs, blsOf (xs.map f) = some bs ∧ bs.all id = true
  | [] => ⟨[], rfl, rfl⟩
  | x :: r => by
    obtain ⟨bs, e, h⟩ := all_true f hf r
    exact ⟨true :: bs, by rw [List.map_cons, hf x]; unfold blsOf; rw [e]; rfl, h⟩
structure Gds (xs : List D) (n k : Nat) : Prop where
  pl : plains xs = true
  ex : ∃ ps, toPys xs = some ps ∧ lay1s ps = true ∧ PyData.showableAll ps = true ∧ wts ps ≤ n ∧ PyData.depthAll ps ≤ k
theorem gds_nil {k : Nat} : Gds [] 0 k := ⟨rfl, [], rfl, rfl, rfl, Nat.zero_le _, Nat.zero_le _⟩
theorem gds_cons {x : D} {r : List D} {n m k : Nat} (h : Gd x n k) (t : Gds r m k) : Gds (x :: r) (n + 2 + m) k := by
  obtain ⟨p, a, b, c, e, f⟩ := h.sd.ex
  obtain ⟨pt, ps, a2, b2, c2, e2, f2⟩ := t
  refine ⟨Bool.and_eq_true_iff.mpr ⟨h.pl, pt⟩, p :: ps, by unfold toPys; rw [a, a2], Bool.and_eq_true_iff.mpr ⟨b, b2⟩, Bool.and_eq_true_iff.mpr ⟨c, c2⟩, ?_, Nat.max_le.mpr ⟨f, f2⟩⟩
  show wt p + 2 + wts ps ≤ n + 2 + m
  omega
theorem gd_tupS {xs : List D} {n k : Nat} (h : Gds xs n k) : Gd (.tup xs) (n + 10) (k + 1) := by
  obtain ⟨pt, ps, a, b, c, e, f⟩ := h
  refine ⟨pt, .tuple ps, by unfold toPy; rw [a]; rfl, b, c, ?_, Nat.succ_le_succ f⟩
  show wts ps + 10 ≤ _
  omega
theorem gd_lstS {xs : List D} {n k : Nat} (h : Gds xs n k) : Gd (.lst xs) (n + 10) (k + 1) := by
  obtain ⟨pt, ps, a, b, c, e, f⟩ := h
  refine ⟨pt, .list ps, by unfold toPy; rw [a]; rfl, b, c, ?_, Nat.succ_le_succ f⟩
  show wts ps + 10 ≤ _
  omega
theorem gd_nm {x : Str} (h : goodNm x = true) : Gd (.str x) 70 0 := by
  have h0 := nm_ok h
  unfold goodNm at h
  rw [Bool.and_eq_true_iff, Bool.and_eq_true_iff] at h
  have h2 := of_decide_eq_true h.1.2
  exact (gd_str x h0).mono (by omega) (by decide)
theorem gd_ints {n : Nat} {is : List Int} (h : ∀ i ∈ is, Bd n i) (hn : n ≤ 1900 := by decide) : ∀ x ∈ is.map D.int, Gd x 2000 0 := fun x hx => by
  obtain ⟨i, hi, rfl⟩ := List.mem_map.mp hx
  exact gd_int (h i hi) hn
theorem gd_line {n m : Nat} {is : List Int} (h : ∀ i ∈ is, Bd n i) (hl : is.length ≤ m) (hn : n ≤ 1900 := by decide) : Gd (.lst (is.map D.int)) (2002 * m + 10) 1 :=
  (gd_lst (gd_ints h hn)).mono (by rw [List.length_map]; exact Nat.add_le_add_right (Nat.mul_le_mul_left _ hl) _) (by decide)
theorem gd_wi {B n : Nat} {w : Wi} (h : WiOk B n w) (hn : n ≤ 6) (hB : B ≤ 1900 := by decide) : Gd (wiD w) 14200 2 := by
  have g1 := gd_line (m := 7) h.bd (by have := h.ln; show w.fs.length + 1 ≤ 7; omega) hB
  have g2 : Gd (wdD w.j) 60 0 := by
    unfold wdD
    cases w.j
    · exact (gd_lit "least").mono (by decide +kernel) (by decide)
    · exact (gd_lit "just").mono (by decide +kernel) (by decide)
  rw [wiD_ls]
  exact (gd_tupS (gds_cons (g2.mono (Nat.le_refl _) (by decide)) (gds_cons g1 gds_nil))).mono (by decide) (by decide)
theorem gd_rw {B sz pl : Nat} {r : Rw} (h : RwOk B sz pl r) (hsz : sz ≤ 3) (hpl : pl ≤ 6) (hB : B ≤ 1900 := by decide) : Gd (rwD r) 175000 4 := by
  have g1 : Gd (.lst (r.ws.map wiD)) 170434 3 := by
    refine (gd_lst (n := 14200) (k := 2) fun x hx => ?_).mono ?_ (by decide)
    · obtain ⟨w, hw, rfl⟩ := List.mem_map.mp hx
      exact gd_wi (h.wo w hw) (by omega) hB
    · have := h.wl
      rw [List.length_map]; omega
  have g2 : ∀ i : Int, 0 ≤ i → i < pl → Gd (.int i) 2000 3 := fun i h0 h1 => (gd_int (n := 3) (by unfold Bd; omega)).mono (by decide) (by decide)
  exact (gd_tupS (gds_cons (g2 _ h.s0 h.s1) (gds_cons (g2 _ h.t0 h.t1) (gds_cons g1 gds_nil)))).mono (by decide) (by decide)
theorem gd_nms {most : Nat} {xs : List Str} (h : NmOk most xs) (hm : most ≤ 6) : Gd (.lst (xs.map D.str)) 442 1 := by
  refine (gd_lst (n := 70) (k := 0) fun x hx => ?_).mono ?_ (by decide)
  · obtain ⟨s, hs, rfl⟩ := List.mem_map.mp hx
    exact gd_nm (h.ok s hs)
  · have := h.l2
    rw [List.length_map]; omega
theorem gd_pg {B : Nat} {g : Pg} (h : PgOk B g) (hB : B ≤ 1900 := by decide) : Gd (pgD g) 1800000 6 := by
  have g1 : Gd (.lst (g.rs.map rwD)) 1750030 5 := by
    refine (gd_lst (n := 175000) (k := 4) fun x hx => ?_).mono ?_ (by decide)
    · obtain ⟨r, hr, rfl⟩ := List.mem_map.mp hx
      exact gd_rw (h.ro r hr) h.nm.l2 h.pm.l2 hB
    · have := h.rl
      rw [List.length_map]; omega
  exact (gd_tupS (gds_cons ((gd_nms h.nm (by decide)).mono (Nat.le_refl _) (by decide)) (gds_cons ((gd_nms h.pm (by decide)).mono (Nat.le_refl _) (by decide)) (gds_cons g1 gds_nil)))).mono (by decide) (by decide)
def mStarA (da : DA) (ds : DS) (d : D) (m : MS) (P : List D → MS → Prop) : Prop := match asT d m with
  | some xs => da ds m fun ys m2 => P (xs ++ ys) m2
  | none => False
theorem w_aStar {de : DE} {da : DA} {ds : DS} {ms : MS} {P : List D → MS → Prop} (h : ExG de ds ms fun d m => mStarA da ds d m P) : ArG (aStar de da) ds ms P := h
theorem w_mStarA {da : DA} {ds : DS} {m : MS} {xs : List D} {P : List D → MS → Prop} (h : ArG da ds m fun ys m2 => P (xs ++ ys) m2) : mStarA da ds (.lst xs) m P := h
local macro_rules | `(tactic| walk_at "s1") => `(tactic| (with_reducible refine w_mStarA ?_))
local macro_rules | `(tactic| walk_at "s1") => `(tactic| (with_reducible refine w_aStar ?_))
local macro_rules | `(tactic| walk_at "s1") => `(tactic| ((with_reducible refine' w_mClear ?wa ?wb ?wz); (case wa => (first | assumption | exact look_new)); (case wb => (first | exact put_new | rfl))))
local macro_rules | `(tactic| walk_at "s1") => `(tactic| ((with_reducible refine' w_mPickA ?wa ?wb ?wz); (case wa => rfl); (case wb => rfl)))
local macro_rules | `(tactic| walk_at "s1") => `(tactic| (with_reducible refine w_mPickZ1 ?_))
local macro_rules | `(tactic| walk_at "s1") => `(tactic| (with_reducible refine w_mPickZ0 ?_))
local macro_rules | `(tactic| walk_at "s1.ExG") => `(tactic| (with_reducible refine w_listR ?_))
local macro_rules | `(tactic| walk_at "s1.ExG") => `(tactic| (with_reducible refine w_clear ?_))
local macro_rules | `(tactic| walk_at "s1.ExG") => `(tactic| (with_reducible refine w_pickZ ?_))
local macro_rules | `(tactic| walk_at "s1") => `(tactic| (with_reducible refine w_mIndex ?_))
local macro_rules | `(tactic| walk_at "s1.ExG") => `(tactic| (with_reducible refine w_sortSet ?_))
local macro_rules | `(tactic| walk_at "s1.ExG") => `(tactic| (with_reducible refine w_index ?_))
def topS (i : Nat) : Stmt := PySem.Challenge.pw_downweigh_k26_programs_side_by_side.main.body.getD i (.Pass ⟨0, 0, 0, 0⟩)
abbrev s_p_is_whole : Stmt := topS 7
theorem sc_p_is_whole : FnScope ["thing"] ["thing"] (defScope s_p_is_whole) :=
  ⟨rfl, rfl, rfl, by decide +kernel, rfl, by decide +kernel, by decide +kernel⟩
abbrev s_p_is_one_of : Stmt := topS 9
theorem sc_p_is_one_of : FnScope ["many", "thing"] ["many", "thing"] (defScope s_p_is_one_of) :=
  ⟨rfl, rfl, rfl, by decide +kernel, rfl, by decide +kernel, by decide +kernel⟩
abbrev s_p_look_at_many : Stmt := topS 14
theorem sc_p_look_at_many : FnScope ["many"] ["many"] (defScope s_p_look_at_many) :=
  ⟨rfl, rfl, rfl, by decide +kernel, rfl, by decide +kernel, by decide +kernel⟩
abbrev s_p_is_line : Stmt := topS 15
theorem sc_p_is_line : FnScope ["many", "thing", "part"] ["many", "thing"] (defScope s_p_is_line) :=
  ⟨rfl, rfl, rfl, by decide +kernel, rfl, by decide +kernel, by decide +kernel⟩
abbrev s_p_is_wish : Stmt := topS 16
theorem sc_p_is_wish : FnScope ["many", "thing", "word", "line"] ["many", "thing"] (defScope s_p_is_wish) :=
  ⟨rfl, rfl, rfl, by decide +kernel, rfl, by decide +kernel, by decide +kernel⟩
abbrev s_p_is_letters : Stmt := topS 24
theorem sc_p_is_letters : FnScope ["thing", "most", "sign"] ["thing", "most"] (defScope s_p_is_letters) :=
  ⟨rfl, rfl, rfl, by decide +kernel, rfl, by decide +kernel, by decide +kernel⟩
abbrev s_p_is_name : Stmt := topS 25
theorem sc_p_is_name : FnScope ["thing"] ["thing"] (defScope s_p_is_name) :=
  ⟨rfl, rfl, rfl, by decide +kernel, rfl, by decide +kernel, by decide +kernel⟩
abbrev s_p_look_at_names : Stmt := topS 26
theorem sc_p_look_at_names : FnScope ["part", "thing", "most", "at", "name"] ["part", "thing", "most"] (defScope s_p_look_at_names) :=
  ⟨rfl, rfl, rfl, by decide +kernel, rfl, by decide +kernel, by decide +kernel⟩
abbrev s_p_is_wishes : Stmt := topS 27
theorem sc_p_is_wishes : FnScope ["many", "thing", "wish"] ["many", "thing"] (defScope s_p_is_wishes) :=
  ⟨rfl, rfl, rfl, by decide +kernel, rfl, by decide +kernel, by decide +kernel⟩
abbrev s_p_is_row : Stmt := topS 28
theorem sc_p_is_row : FnScope ["names", "places", "thing", "start", "to", "wishes"] ["names", "places", "thing"] (defScope s_p_is_row) :=
  ⟨rfl, rfl, rfl, by decide +kernel, rfl, by decide +kernel, by decide +kernel⟩
abbrev s_p_look_at_rows : Stmt := topS 29
theorem sc_p_look_at_rows : FnScope ["names", "places", "thing", "at", "row"] ["names", "places", "thing"] (defScope s_p_look_at_rows) :=
  ⟨rfl, rfl, rfl, by decide +kernel, rfl, by decide +kernel, by decide +kernel⟩
abbrev s_p_look_at : Stmt := topS 30
theorem sc_p_look_at : FnScope ["thing", "names", "places", "rows"] ["thing"] (defScope s_p_look_at) :=
  ⟨rfl, rfl, rfl, by decide +kernel, rfl, by decide +kernel, by decide +kernel⟩
abbrev s_p_copied_wishes : Stmt := topS 31
theorem sc_p_copied_wishes : FnScope ["wishes", "word", "line"] ["wishes"] (defScope s_p_copied_wishes) :=
  ⟨rfl, rfl, rfl, by decide +kernel, rfl, by decide +kernel, by decide +kernel⟩
abbrev s_p_copied_rows : Stmt := topS 32
theorem sc_p_copied_rows : FnScope ["rows", "start", "to", "wishes"] ["rows"] (defScope s_p_copied_rows) :=
  ⟨rfl, rfl, rfl, by decide +kernel, rfl, by decide +kernel, by decide +kernel⟩
abbrev s_p_look_at_most : Stmt := topS 34
theorem sc_p_look_at_most : FnScope ["most", "thing"] ["most", "thing"] (defScope s_p_look_at_most) :=
  ⟨rfl, rfl, rfl, by decide +kernel, rfl, by decide +kernel, by decide +kernel⟩
abbrev s_p_beside : Stmt := topS 35
theorem sc_p_beside : FnScope ["one", "other", "places", "rows", "first", "shifted", "start", "to", "wishes", "name"] ["one", "other", "places", "rows"] (defScope s_p_beside) :=
  ⟨rfl, rfl, rfl, by decide +kernel, rfl, by decide +kernel, by decide +kernel⟩
abbrev s_L_pool : Stmt := topS 37
theorem sc_L_pool : FnScope ["_law_script", "_law_k", "_law_cell", "_law_mixed"] ["_law_script", "_law_k"] (defScope s_L_pool) :=
  ⟨rfl, rfl, rfl, by decide +kernel, rfl, by decide +kernel, by decide +kernel⟩
abbrev s_L_take : Stmt := topS 38
theorem sc_L_take : FnScope ["_law_pool_here", "_law_many", "_law_found"] ["_law_pool_here", "_law_many"] (defScope s_L_take) :=
  ⟨rfl, rfl, rfl, by decide +kernel, rfl, by decide +kernel, by decide +kernel⟩
abbrev s_L_names : Stmt := topS 39
theorem sc_L_names : FnScope ["_law_pool_here", "_law_many", "_law_most", "_law_found", "_law_k", "_law_word", "_law_turn"] ["_law_pool_here", "_law_many", "_law_most"] (defScope s_L_names) :=
  ⟨rfl, rfl, rfl, by decide +kernel, rfl, by decide +kernel, by decide +kernel⟩
abbrev s_L_factor : Stmt := topS 40
theorem sc_L_factor : FnScope ["_law_pool_here"] ["_law_pool_here"] (defScope s_L_factor) :=
  ⟨rfl, rfl, rfl, by decide +kernel, rfl, by decide +kernel, by decide +kernel⟩
abbrev s_L_line : Stmt := topS 41
theorem sc_L_line : FnScope ["_law_pool_here", "_law_many", "_law_turn"] ["_law_pool_here", "_law_many"] (defScope s_L_line) :=
  ⟨rfl, rfl, rfl, by decide +kernel, rfl, by decide +kernel, by decide +kernel⟩
abbrev s_L_wishes : Stmt := topS 42
theorem sc_L_wishes : FnScope ["_law_pool_here", "_law_many", "_law_most", "_law_found", "_law_turn"] ["_law_pool_here", "_law_many", "_law_most"] (defScope s_L_wishes) :=
  ⟨rfl, rfl, rfl, by decide +kernel, rfl, by decide +kernel, by decide +kernel⟩
abbrev s_L_program : Stmt := topS 43
theorem sc_L_program : FnScope ["_law_pool_here", "_law_called_here", "_law_lines", "_law_names_here", "_law_called", "_law_told_here", "_law_turn", "_law_start", "_law_to"] ["_law_pool_here", "_law_called_here", "_law_lines"] (defScope s_L_program) :=
  ⟨rfl, rfl, rfl, by decide +kernel, rfl, by decide +kernel, by decide +kernel⟩
abbrev s_L_due : Stmt := topS 44
theorem sc_L_due : FnScope ["_law_near", "_law_far", "_law_most", "_law_least", "_law_thing", "_law_top", "_law_shift", "_law_more", "_law_start", "_law_to", "_law_wants", "_law_name"] ["_law_near", "_law_far", "_law_most", "_law_least"] (defScope s_L_due) :=
  ⟨rfl, rfl, rfl, by decide +kernel, rfl, by decide +kernel, by decide +kernel⟩
abbrev s_L_told : Stmt := topS 45
theorem sc_L_told : FnScope ["_law_near", "_law_far", "_law_most", "_law_least", "_law_kept", "_law_found", "e"] ["_law_near", "_law_far", "_law_most", "_law_least"] (defScope s_L_told) :=
  ⟨rfl, rfl, rfl, by decide +kernel, rfl, by decide +kernel, by decide +kernel⟩
abbrev s_L_apart : Stmt := topS 46
theorem sc_L_apart : FnScope ["_law_told_here", "_law_some", "_law_row", "_law_piece", "_law_total", "_law_at", "_law_word", "_law_line_here", "_law_each"] ["_law_told_here"] (defScope s_L_apart) :=
  ⟨rfl, rfl, rfl, by decide +kernel, rfl, by decide +kernel, by decide +kernel⟩
abbrev s_L_pair : Stmt := topS 47
theorem sc_L_pair : FnScope ["_law_pool_here", "_law_near", "_law_far", "_law_called", "_law_name", "_law_at", "_law_start", "_law_to", "_law_wants"] ["_law_pool_here"] (defScope s_L_pair) :=
  ⟨rfl, rfl, rfl, by decide +kernel, rfl, by decide +kernel, by decide +kernel⟩
abbrev s_L_right : Stmt := topS 48
theorem sc_L_right : FnScope ["_law_near", "_law_far", "_law_most", "_law_least", "_law_due_here", "_law_kept", "_law_found"] ["_law_near", "_law_far", "_law_most", "_law_least"] (defScope s_L_right) :=
  ⟨rfl, rfl, rfl, by decide +kernel, rfl, by decide +kernel, by decide +kernel⟩
abbrev s_L_law : Stmt := topS 49
theorem sc_L_law : FnScope ["_law_script", "_law_k", "_law_pool_here", "_law_near", "_law_far", "_law_size", "_law_many", "_law_odd", "_law_bounds", "_law_most", "_law_least"] ["_law_script"] (defScope s_L_law) :=
  ⟨rfl, rfl, rfl, by decide +kernel, rfl, by decide +kernel, by decide +kernel⟩
abbrev s_NoNumber : Stmt := topS 2
theorem it_NoNumber : InitT (clsInit s_NoNumber) ["thing"] where
  form := ⟨_, _, _, _, _, _, _, _, [(_, _, _, _)], rfl, rfl, fun _ => ⟨_, rfl⟩⟩
  k1 := rfl
  k2 := rfl
  k3 := rfl
  k4 := by decide +kernel
  k5 := rfl
  k6 := by decide +kernel
  k7 := rfl
  k8 := rfl
  k9 := ⟨_, rfl, rfl⟩
  bind := fun _ _ _ _ _ _ _ _ _ v us hu => match us, hu with | [_], _ => rfl
  dist := by decide +kernel
def ml_0 : List (Str × Bool) := [("NoNumber", true), ("Unlike", true), ("TooMany", false)]
theorem lk_ml_0_NoNumber : List.lookup ("NoNumber" : Str) ml_0 = some true := by decide +kernel
theorem lk_ml_0_Unlike : List.lookup ("Unlike" : Str) ml_0 = some true := by decide +kernel
theorem lk_ml_0_TooMany : List.lookup ("TooMany" : Str) ml_0 = some false := by decide +kernel
def ml_1 : List (Str × Bool) := [("NoNumber", false), ("Unlike", false), ("TooMany", true)]
theorem lk_ml_1_NoNumber : List.lookup ("NoNumber" : Str) ml_1 = some false := by decide +kernel
theorem lk_ml_1_Unlike : List.lookup ("Unlike" : Str) ml_1 = some false := by decide +kernel
theorem lk_ml_1_TooMany : List.lookup ("TooMany" : Str) ml_1 = some true := by decide +kernel
def ml_2 : List (Str × Bool) := [("NoNumber", true), ("Unlike", true), ("TooMany", true)]
theorem lk_ml_2_NoNumber : List.lookup ("NoNumber" : Str) ml_2 = some true := by decide +kernel
theorem lk_ml_2_Unlike : List.lookup ("Unlike" : Str) ml_2 = some true := by decide +kernel
theorem lk_ml_2_TooMany : List.lookup ("TooMany" : Str) ml_2 = some true := by decide +kernel
def ml_3 : List (Str × Bool) := [("NoNumber", true), ("Unlike", false), ("TooMany", false)]
theorem lk_ml_3_NoNumber : List.lookup ("NoNumber" : Str) ml_3 = some true := by decide +kernel
theorem lk_ml_3_Unlike : List.lookup ("Unlike" : Str) ml_3 = some false := by decide +kernel
theorem lk_ml_3_TooMany : List.lookup ("TooMany" : Str) ml_3 = some false := by decide +kernel
def ml_4 : List (Str × Bool) := [("NoNumber", false), ("Unlike", true), ("TooMany", false)]
theorem lk_ml_4_NoNumber : List.lookup ("NoNumber" : Str) ml_4 = some false := by decide +kernel
theorem lk_ml_4_Unlike : List.lookup ("Unlike" : Str) ml_4 = some true := by decide +kernel
theorem lk_ml_4_TooMany : List.lookup ("TooMany" : Str) ml_4 = some false := by decide +kernel
def ml_5 : List (Str × Bool) := [("NoNumber", false), ("Unlike", false), ("TooMany", false)]
theorem lk_ml_5_NoNumber : List.lookup ("NoNumber" : Str) ml_5 = some false := by decide +kernel
theorem lk_ml_5_Unlike : List.lookup ("Unlike" : Str) ml_5 = some false := by decide +kernel
theorem lk_ml_5_TooMany : List.lookup ("TooMany" : Str) ml_5 = some false := by decide +kernel
def ml_6 : List (Str × Bool) := [("NoNumber", true)]
theorem lk_ml_6_NoNumber : List.lookup ("NoNumber" : Str) ml_6 = some true := by decide +kernel
local macro_rules | `(tactic| walk_at "lk") => `(tactic| simp only [lk_ml_0_NoNumber, lk_ml_0_Unlike, lk_ml_0_TooMany, lk_ml_1_NoNumber, lk_ml_1_Unlike, lk_ml_1_TooMany, lk_ml_2_NoNumber, lk_ml_2_Unlike, lk_ml_2_TooMany, lk_ml_3_NoNumber, lk_ml_3_Unlike, lk_ml_3_TooMany, lk_ml_4_NoNumber, lk_ml_4_Unlike, lk_ml_4_TooMany, lk_ml_5_NoNumber, lk_ml_5_Unlike, lk_ml_5_TooMany, lk_ml_6_NoNumber, Option.isSome_some, true_and])
abbrev bm_ValueError : List Value := [.type "ValueError", .type "Exception", .type "BaseException", .type "object"]
abbrev bm_OverflowError : List Value := [.type "OverflowError", .type "ArithmeticError", .type "Exception", .type "BaseException", .type "object"]
structure Tx (P : Program) (K : PySem.W.Frag) (mg : Str → Option Value) where
  n_OverflowError : mg "OverflowError" = none
  n_all : mg "all" = none
  n_any : mg "any" = none
  n_bool : mg "bool" = none
  n_enumerate : mg "enumerate" = none
  n_int : mg "int" = none
  n_isinstance : mg "isinstance" = none
  n_len : mg "len" = none
  n_list : mg "list" = none
  n_max : mg "max" = none
  n_min : mg "min" = none
  n_range : mg "range" = none
  n_repr : mg "repr" = none
  n_str : mg "str" = none
  n_sum : mg "sum" = none
  n_tuple : mg "tuple" = none
  u_JUST : Tok
  c_JUST : mg "JUST" = some (.str "just" u_JUST)
  u_LEAST : Tok
  c_LEAST : mg "LEAST" = some (.str "least" u_LEAST)
  u_LETTERS : Tok
  c_LETTERS : mg "LETTERS" = some (.str "abcdefghijklmnopqrstuvwxyz" u_LETTERS)
  u_LONGEST_NAME : Tok
  c_LONGEST_NAME : mg "LONGEST_NAME" = some (.int (6) u_LONGEST_NAME)
  u_MOST_NAMES : Tok
  c_MOST_NAMES : mg "MOST_NAMES" = some (.int (3) u_MOST_NAMES)
  u_MOST_NUMBERS : Tok
  c_MOST_NUMBERS : mg "MOST_NUMBERS" = some (.int (8) u_MOST_NUMBERS)
  u_MOST_PLACES : Tok
  c_MOST_PLACES : mg "MOST_PLACES" = some (.int (6) u_MOST_PLACES)
  u_MOST_ROWS : Tok
  c_MOST_ROWS : mg "MOST_ROWS" = some (.int (10) u_MOST_ROWS)
  u_MOST_WISHES : Tok
  c_MOST_WISHES : mg "MOST_WISHES" = some (.int (12) u_MOST_WISHES)
  e_NoNumber : Addr
  gx_NoNumber : mg "NoNumber" = some (.ref e_NoNumber)
  x_NoNumber : ExB K "NoNumber" e_NoNumber
  fi_NoNumber : Addr
  cc_NoNumber : Addr
  cd_NoNumber : Addr
  fd_NoNumber : FuncData
  i_NoNumber : ExI P K "NoNumber" e_NoNumber fi_NoNumber cc_NoNumber cd_NoNumber "ValueError" "ValueError.__new__" "ValueError.__init__" bm_ValueError ["thing"]
  j_NoNumber : InitF K fi_NoNumber cc_NoNumber cd_NoNumber ["thing"] fd_NoNumber
  e_NoProgram : Addr
  gx_NoProgram : mg "NoProgram" = some (.ref e_NoProgram)
  x_NoProgram : ExB K "NoProgram" e_NoProgram
  e_TooMany : Addr
  gx_TooMany : mg "TooMany" = some (.ref e_TooMany)
  x_TooMany : ExB K "TooMany" e_TooMany
  q_TooMany : ExF K "TooMany" e_TooMany bm_OverflowError "OverflowError.__new__"
  e_Unlike : Addr
  gx_Unlike : mg "Unlike" = some (.ref e_Unlike)
  x_Unlike : ExB K "Unlike" e_Unlike
  q_Unlike : ExF K "Unlike" e_Unlike bm_ValueError "ValueError.__new__"
  e_WeighError : Addr
  gx_WeighError : mg "WeighError" = some (.ref e_WeighError)
  x_WeighError : ExB K "WeighError" e_WeighError
  m_NoNumber_TooMany : PySem.W.subIn K (.ref e_NoNumber) (.ref e_TooMany) = some false
  m_NoNumber_WeighError : PySem.W.subIn K (.ref e_NoNumber) (.ref e_WeighError) = some true
  m_TooMany_TooMany : PySem.W.subIn K (.ref e_TooMany) (.ref e_TooMany) = some true
  m_TooMany_WeighError : PySem.W.subIn K (.ref e_TooMany) (.ref e_WeighError) = some false
  m_Unlike_TooMany : PySem.W.subIn K (.ref e_Unlike) (.ref e_TooMany) = some false
  m_Unlike_WeighError : PySem.W.subIn K (.ref e_Unlike) (.ref e_WeighError) = some true
  kt_NoNumber : MlK K (.ref e_NoNumber) ml_3
  kt_NoProgram : MlK K (.ref e_NoProgram) ml_5
  kt_OverflowError : MlK K (.type "OverflowError") ml_1
  kt_TooMany : MlK K (.ref e_TooMany) ml_1
  kt_Unlike : MlK K (.ref e_Unlike) ml_4
  kt_WeighError : MlK K (.ref e_WeighError) ml_0
  f_NoNumber_thing : PySem.W.findIn K (.ref e_NoNumber) "thing" = some none
  f_p_is_whole : Addr
  d_p_is_whole : FuncData
  F_p_is_whole : Fun K "is_whole" "is_whole" s_p_is_whole f_p_is_whole d_p_is_whole
  g_p_is_whole : mg "is_whole" = some (.ref f_p_is_whole)
  f_p_is_one_of : Addr
  d_p_is_one_of : FuncData
  F_p_is_one_of : Fun K "is_one_of" "is_one_of" s_p_is_one_of f_p_is_one_of d_p_is_one_of
  g_p_is_one_of : mg "is_one_of" = some (.ref f_p_is_one_of)
  f_p_look_at_many : Addr
  d_p_look_at_many : FuncData
  F_p_look_at_many : Fun K "look_at_many" "look_at_many" s_p_look_at_many f_p_look_at_many d_p_look_at_many
  g_p_look_at_many : mg "look_at_many" = some (.ref f_p_look_at_many)
  f_p_is_line : Addr
  d_p_is_line : FuncData
  F_p_is_line : Fun K "is_line" "is_line" s_p_is_line f_p_is_line d_p_is_line
  g_p_is_line : mg "is_line" = some (.ref f_p_is_line)
  f_p_is_wish : Addr
  d_p_is_wish : FuncData
  F_p_is_wish : Fun K "is_wish" "is_wish" s_p_is_wish f_p_is_wish d_p_is_wish
  g_p_is_wish : mg "is_wish" = some (.ref f_p_is_wish)
  f_p_is_letters : Addr
  d_p_is_letters : FuncData
  F_p_is_letters : Fun K "is_letters" "is_letters" s_p_is_letters f_p_is_letters d_p_is_letters
  g_p_is_letters : mg "is_letters" = some (.ref f_p_is_letters)
  f_p_is_name : Addr
  d_p_is_name : FuncData
  F_p_is_name : Fun K "is_name" "is_name" s_p_is_name f_p_is_name d_p_is_name
  g_p_is_name : mg "is_name" = some (.ref f_p_is_name)
  f_p_look_at_names : Addr
  d_p_look_at_names : FuncData
  F_p_look_at_names : Fun K "look_at_names" "look_at_names" s_p_look_at_names f_p_look_at_names d_p_look_at_names
  g_p_look_at_names : mg "look_at_names" = some (.ref f_p_look_at_names)
  f_p_is_wishes : Addr
  d_p_is_wishes : FuncData
  F_p_is_wishes : Fun K "is_wishes" "is_wishes" s_p_is_wishes f_p_is_wishes d_p_is_wishes
  g_p_is_wishes : mg "is_wishes" = some (.ref f_p_is_wishes)
  f_p_is_row : Addr
  d_p_is_row : FuncData
  F_p_is_row : Fun K "is_row" "is_row" s_p_is_row f_p_is_row d_p_is_row
  g_p_is_row : mg "is_row" = some (.ref f_p_is_row)
  f_p_look_at_rows : Addr
  d_p_look_at_rows : FuncData
  F_p_look_at_rows : Fun K "look_at_rows" "look_at_rows" s_p_look_at_rows f_p_look_at_rows d_p_look_at_rows
  g_p_look_at_rows : mg "look_at_rows" = some (.ref f_p_look_at_rows)
  f_p_look_at : Addr
  d_p_look_at : FuncData
  F_p_look_at : Fun K "look_at" "look_at" s_p_look_at f_p_look_at d_p_look_at
  g_p_look_at : mg "look_at" = some (.ref f_p_look_at)
  f_p_copied_wishes : Addr
  d_p_copied_wishes : FuncData
  F_p_copied_wishes : Fun K "copied_wishes" "copied_wishes" s_p_copied_wishes f_p_copied_wishes d_p_copied_wishes
  g_p_copied_wishes : mg "copied_wishes" = some (.ref f_p_copied_wishes)
  f_p_copied_rows : Addr
  d_p_copied_rows : FuncData
  F_p_copied_rows : Fun K "copied_rows" "copied_rows" s_p_copied_rows f_p_copied_rows d_p_copied_rows
  g_p_copied_rows : mg "copied_rows" = some (.ref f_p_copied_rows)
  f_p_look_at_most : Addr
  d_p_look_at_most : FuncData
  F_p_look_at_most : Fun K "look_at_most" "look_at_most" s_p_look_at_most f_p_look_at_most d_p_look_at_most
  g_p_look_at_most : mg "look_at_most" = some (.ref f_p_look_at_most)
  f_p_beside : Addr
  d_p_beside : FuncData
  F_p_beside : FunA K "beside" "beside" s_p_beside f_p_beside d_p_beside [] [("places", .int (6)), ("rows", .int (10))]
  g_p_beside : mg "beside" = some (.ref f_p_beside)
  f_L_pool : Addr
  d_L_pool : FuncData
  F_L_pool : Fun K "_law_pool" "_law_pool" s_L_pool f_L_pool d_L_pool
  g_L_pool : mg "_law_pool" = some (.ref f_L_pool)
  f_L_take : Addr
  d_L_take : FuncData
  F_L_take : Fun K "_law_take" "_law_take" s_L_take f_L_take d_L_take
  g_L_take : mg "_law_take" = some (.ref f_L_take)
  f_L_names : Addr
  d_L_names : FuncData
  F_L_names : Fun K "_law_names" "_law_names" s_L_names f_L_names d_L_names
  g_L_names : mg "_law_names" = some (.ref f_L_names)
  f_L_factor : Addr
  d_L_factor : FuncData
  F_L_factor : Fun K "_law_factor" "_law_factor" s_L_factor f_L_factor d_L_factor
  g_L_factor : mg "_law_factor" = some (.ref f_L_factor)
  f_L_line : Addr
  d_L_line : FuncData
  F_L_line : Fun K "_law_line" "_law_line" s_L_line f_L_line d_L_line
  g_L_line : mg "_law_line" = some (.ref f_L_line)
  f_L_wishes : Addr
  d_L_wishes : FuncData
  F_L_wishes : Fun K "_law_wishes" "_law_wishes" s_L_wishes f_L_wishes d_L_wishes
  g_L_wishes : mg "_law_wishes" = some (.ref f_L_wishes)
  f_L_program : Addr
  d_L_program : FuncData
  F_L_program : Fun K "_law_program" "_law_program" s_L_program f_L_program d_L_program
  g_L_program : mg "_law_program" = some (.ref f_L_program)
  f_L_due : Addr
  d_L_due : FuncData
  F_L_due : Fun K "_law_due" "_law_due" s_L_due f_L_due d_L_due
  g_L_due : mg "_law_due" = some (.ref f_L_due)
  f_L_told : Addr
  d_L_told : FuncData
  F_L_told : Fun K "_law_told" "_law_told" s_L_told f_L_told d_L_told
  g_L_told : mg "_law_told" = some (.ref f_L_told)
  f_L_apart : Addr
  d_L_apart : FuncData
  F_L_apart : Fun K "_law_apart" "_law_apart" s_L_apart f_L_apart d_L_apart
  g_L_apart : mg "_law_apart" = some (.ref f_L_apart)
  f_L_pair : Addr
  d_L_pair : FuncData
  F_L_pair : Fun K "_law_pair" "_law_pair" s_L_pair f_L_pair d_L_pair
  g_L_pair : mg "_law_pair" = some (.ref f_L_pair)
  f_L_right : Addr
  d_L_right : FuncData
  F_L_right : Fun K "_law_right" "_law_right" s_L_right f_L_right d_L_right
  g_L_right : mg "_law_right" = some (.ref f_L_right)
  f_L_law : Addr
  d_L_law : FuncData
  F_L_law : Fun K "law" "law" s_L_law f_L_law d_L_law
  g_L_law : mg "law" = some (.ref f_L_law)
  b_L_apart_1 : Bnd K d_L_apart ["_law_told_here"] 1 [] [0]
  b_L_due_4 : Bnd K d_L_due ["_law_near", "_law_far", "_law_most", "_law_least"] 4 [] [0, 1, 2, 3]
  b_L_factor_1 : Bnd K d_L_factor ["_law_pool_here"] 1 [] [0]
  b_L_line_2 : Bnd K d_L_line ["_law_pool_here", "_law_many"] 2 [] [0, 1]
  b_L_names_3 : Bnd K d_L_names ["_law_pool_here", "_law_many", "_law_most"] 3 [] [0, 1, 2]
  b_L_pair_1 : Bnd K d_L_pair ["_law_pool_here"] 1 [] [0]
  b_L_pool_2 : Bnd K d_L_pool ["_law_script", "_law_k"] 2 [] [0, 1]
  b_L_program_3 : Bnd K d_L_program ["_law_pool_here", "_law_called_here", "_law_lines"] 3 [] [0, 1, 2]
  b_L_right_4 : Bnd K d_L_right ["_law_near", "_law_far", "_law_most", "_law_least"] 4 [] [0, 1, 2, 3]
  b_L_take_2 : Bnd K d_L_take ["_law_pool_here", "_law_many"] 2 [] [0, 1]
  b_L_told_4 : Bnd K d_L_told ["_law_near", "_law_far", "_law_most", "_law_least"] 4 [] [0, 1, 2, 3]
  b_L_wishes_3 : Bnd K d_L_wishes ["_law_pool_here", "_law_many", "_law_most"] 3 [] [0, 1, 2]
  b_p_beside_0_other_rows_one_places : BndA K d_p_beside ["one", "other", "places", "rows"] 0 ["other", "rows", "one", "places"] [2, 0, 3, 1] []
  b_p_beside_2 : BndA K d_p_beside ["one", "other", "places", "rows"] 2 [] [0, 1, 2, 3] [.int (6), .int (10)]
  b_p_copied_rows_1 : Bnd K d_p_copied_rows ["rows"] 1 [] [0]
  b_p_copied_wishes_1 : Bnd K d_p_copied_wishes ["wishes"] 1 [] [0]
  b_p_is_letters_2 : Bnd K d_p_is_letters ["thing", "most"] 2 [] [0, 1]
  b_p_is_line_2 : Bnd K d_p_is_line ["many", "thing"] 2 [] [0, 1]
  b_p_is_name_1 : Bnd K d_p_is_name ["thing"] 1 [] [0]
  b_p_is_one_of_2 : Bnd K d_p_is_one_of ["many", "thing"] 2 [] [0, 1]
  b_p_is_row_3 : Bnd K d_p_is_row ["names", "places", "thing"] 3 [] [0, 1, 2]
  b_p_is_whole_1 : Bnd K d_p_is_whole ["thing"] 1 [] [0]
  b_p_is_wish_2 : Bnd K d_p_is_wish ["many", "thing"] 2 [] [0, 1]
  b_p_is_wishes_2 : Bnd K d_p_is_wishes ["many", "thing"] 2 [] [0, 1]
  b_p_look_at_1 : Bnd K d_p_look_at ["thing"] 1 [] [0]
  b_p_look_at_many_1 : Bnd K d_p_look_at_many ["many"] 1 [] [0]
  b_p_look_at_most_2 : Bnd K d_p_look_at_most ["most", "thing"] 2 [] [0, 1]
  b_p_look_at_names_3 : Bnd K d_p_look_at_names ["part", "thing", "most"] 3 [] [0, 1, 2]
  b_p_look_at_rows_3 : Bnd K d_p_look_at_rows ["names", "places", "thing"] 3 [] [0, 1, 2]
section
variable {P : Program} {w : World} {K : PySem.W.Frag} {mg : Str → Option Value} {base : Heap}
def isW (d : D) : Bool := match d with
  | .int _ => true
  | _ => false
def sp_p_is_whole : FS := fun ds ms P => match ds with
  | [d] => (∃ a, tyD d = some a) ∧ P (.bl (isW d)) ms
  | _ => False
theorem len_p_is_whole : ∀ ds ms Q, sp_p_is_whole ds ms Q → ds.length = 1 := fun ds ms Q h => by
  unfold sp_p_is_whole at h
  split at h <;> first | rfl | exact h.elim
def t_p_is_whole : DTS := dRet (dAndV (dIsi .int (dVar 0)) (dNotV (dIsi .bool (dVar 0))))
theorem whole_sem {d : D} {ms : MS} {Q : D → MS → Prop} (h : (∃ a, tyD d = some a) ∧ Q (.bl (isW d)) ms) : dAndV (dIsi .int (dVar 0)) (dNotV (dIsi .bool (dVar 0))) [some d] ms Q := by
  obtain ⟨⟨a, e⟩, h⟩ := h
  walk_at "dl"
  rw [e]
  cases d <;> cases e <;> exact h
theorem sem_p_is_whole : ∀ ds ms Q, sp_p_is_whole ds ms Q → t_p_is_whole { nx := fun _ m => Q .non m, rt := Q } (startD 1 ds) ms := by
  intro ds ms Q h
  unfold sp_p_is_whole at h
  split at h
  · unfold t_p_is_whole
    exact whole_sem h
  · exact h.elim
theorem ok_p_is_whole (T : Tx P K mg) : FnG P w K mg base 1 T.f_p_is_whole T.d_p_is_whole ["thing"] (spD K sp_p_is_whole) := by
  exact fnG_of (k := 0) (t := t_p_is_whole) T.F_p_is_whole sc_p_is_whole len_p_is_whole
    (fun cdv A outer s H hr => pds_one (pds_ret (pd_and (pd_isi .int (by decide) rfl T.n_isinstance rfl T.n_int (by decide +kernel) (by decide) (by decide) (pd_var 0)) (pd_one (pd_not (pd_isi .bool (by decide) rfl T.n_isinstance rfl T.n_bool (by decide +kernel) (by decide) (by decide) (pd_var 0)))))))
    sem_p_is_whole
def sp_p_is_one_of : FS := fun ds ms P => match ds with
  | [.int n, d] => (∃ a, tyD d = some a) ∧ P (.bl (isAt n d)) ms
  | _ => False
theorem len_p_is_one_of : ∀ ds ms Q, sp_p_is_one_of ds ms Q → ds.length = 2 := fun ds ms Q h => by
  unfold sp_p_is_one_of at h
  split at h <;> first | rfl | exact h.elim
def t_p_is_one_of : DTS := dRet (dAndV (dCall 1 0 [0] sp_p_is_whole (aCons (dVar 1) (aNil)) (aNil)) (dChain fLe fLt (dC (.int 0)) (dVar 1) (dVar 0)))
theorem sem_p_is_one_of : ∀ ds ms Q, sp_p_is_one_of ds ms Q → t_p_is_one_of { nx := fun _ m => Q .non m, rt := Q } (startD 2 ds) ms := by
  intro ds ms Q h
  unfold sp_p_is_one_of at h
  split at h
  · rename_i n d
    obtain ⟨⟨a, e⟩, h⟩ := h
    simp only [startD]
    unfold t_p_is_one_of
    walk_at "st"
    refine ⟨⟨a, e⟩, ?_⟩
    walk_at "st"
    cases d with
    | int i =>
      refine w_iteT rfl ?_
      walk_at "st"
      have h : Q (.bl (decide (0 ≤ i) && decide (i < n))) ms := h
      cases h0 : decide (0 ≤ i) with
      | true =>
        rw [h0] at h
        refine w_iteT rfl ?_
        walk_at "st"
        exact h
      | false =>
        rw [h0] at h
        refine w_iteF rfl ?_
        walk_at "st"
        exact h
    | _ =>
      refine w_iteF rfl ?_
      walk_at "st"
      exact h
  · exact h.elim
theorem ok_p_is_one_of (T : Tx P K mg) : FnG P w K mg base 2 T.f_p_is_one_of T.d_p_is_one_of ["many", "thing"] (spD K sp_p_is_one_of) := by
  have G_p_is_whole := ok_p_is_whole (P := P) (w := w) (base := base) T
  exact fnG_of (k := 1) (t := t_p_is_one_of) T.F_p_is_one_of sc_p_is_one_of len_p_is_one_of
    (fun cdv A outer s H hr => pds_one (pds_ret (pd_and (pd_call G_p_is_whole (hr.mono (by decide)) rfl T.g_p_is_whole T.F_p_is_whole.kp T.b_p_is_whole_1 (pda_cons (pd_var 1) (pda_nil))) (pd_one (pd_chain op_le opd_le op_lt opd_lt (pd_int) (pd_var 1) (pd_var 0))))))
    sem_p_is_one_of
def sp_p_look_at_many : FS := fun ds ms P => match ds with
  | [.int i] => 0 ≤ i ∧ i ≤ 8 ∧ P .non ms
  | _ => False
theorem len_p_look_at_many : ∀ ds ms Q, sp_p_look_at_many ds ms Q → ds.length = 1 := fun ds ms Q h => by
  unfold sp_p_look_at_many at h
  split at h <;> first | rfl | exact h.elim
def t_p_look_at_many : DTS := dIfS (dOr (dNot (dTest (dCall 1 0 [0] sp_p_is_whole (aCons (dVar 0) (aNil)) (aNil)))) (dOr (dTest (dOp fLt (dVar 0) (dC (.int 0)))) (dTest (dOp fGt (dVar 0) (dC (.int 8)))))) (dNever) (dNext)
theorem sem_p_look_at_many : ∀ ds ms Q, sp_p_look_at_many ds ms Q → t_p_look_at_many { nx := fun _ m => Q .non m, rt := Q } (startD 1 ds) ms := by
  intro ds ms Q h
  unfold sp_p_look_at_many at h
  split at h
  · rename_i i
    obtain ⟨h0, h8, h⟩ := h
    simp only [startD]
    unfold t_p_look_at_many
    walk_at "st"
    refine ⟨⟨_, rfl⟩, ?_⟩
    walk_at "st"
    refine w_iteF (decide_eq_false (by omega)) ?_
    walk_at "st"
    refine w_iteF (decide_eq_false (by omega)) ?_
    walk_at "st"
    exact h
  · exact h.elim
theorem ok_p_look_at_many (T : Tx P K mg) : FnG P w K mg base 2 T.f_p_look_at_many T.d_p_look_at_many ["many"] (spD K sp_p_look_at_many) := by
  have G_p_is_whole := ok_p_is_whole (P := P) (w := w) (base := base) T
  exact fnG_of (k := 1) (t := t_p_look_at_many) T.F_p_look_at_many sc_p_look_at_many len_p_look_at_many
    (fun cdv A outer s H hr => pds_one (pds_if (pdt_w (pdw_or (pdt_not (pdt_val (pd_call G_p_is_whole (hr.mono (by decide)) rfl T.g_p_is_whole T.F_p_is_whole.kp T.b_p_is_whole_1 (pda_cons (pd_var 0) (pda_nil))))) (pdw_or (pdt_cmp op_lt opd_lt (pd_var 0) (pd_int)) (pdw_or1 (pdt_cmp op_gt opd_gt (pd_var 0) (pd_glob (v := .int (8)) rfl T.c_MOST_NUMBERS ⟨_, rfl⟩ (fun _ => .int _))))))) (pds_one (pds_never)) (pds_nil)))
    sem_p_look_at_many
def sp_p_is_line : FS := fun ds ms P => match ds with
  | [.int i, .lst xs] => ∃ is : List Int, xs = is.map D.int ∧ 0 ≤ i ∧ i ≤ 8 ∧ (is.length : Int) = i + 1 ∧ P (.bl true) ms
  | _ => False
theorem len_p_is_line : ∀ ds ms Q, sp_p_is_line ds ms Q → ds.length = 2 := fun ds ms Q h => by
  unfold sp_p_is_line at h
  split at h <;> first | rfl | exact h.elim
def t_p_is_line : DTS := dSeq (dDrop (dCall 1 0 [0] sp_p_look_at_many (aCons (dVar 0) (aNil)) (aNil))) (dSeq (dIfS (dOr (dNot (dTest (dIsi .list (dVar 1)))) (dTest (dOp fNe (dCB cLen (aCons (dVar 1) (aNil))) (dOp fAdd (dVar 0) (dC (.int 1)))))) (dRet (dC (.bl false))) (dNext)) (dRet (dCB cAll (aCons (dLc (iSeq (dVar 1)) (sName 2) (dYes) (dCall 1 0 [0] sp_p_is_whole (aCons (dVar 2) (aNil)) (aNil)) [2]) (aNil)))))
theorem sem_p_is_line : ∀ ds ms Q, sp_p_is_line ds ms Q → t_p_is_line { nx := fun _ m => Q .non m, rt := Q } (startD 3 ds) ms := by
  intro ds ms Q h
  unfold sp_p_is_line at h
  split at h
  · rename_i i xs
    obtain ⟨is, rfl, h0, h8, hl, h⟩ := h
    simp only [startD]
    unfold t_p_is_line
    walk_at "st"
    refine ⟨h0, h8, ?_⟩
    walk_at "st"
    refine w_iteF (by rw [List.length_map, hl]; simp) ?_
    walk_at "st"
    simp only [wipeD, List.set]
    refine comp_e D.int (fun _ => D.bl true) is [] _ (by simp; omega) (fun x hx P0 q => ?_) ?_
    · walk_at "st"
      exact ⟨⟨_, rfl⟩, q⟩
    · rw [List.nil_append]
      walk_at "st"
      obtain ⟨bs, e, hb⟩ := all_true (fun _ : Int => D.bl true) (fun _ => rfl) is
      refine w_all e ?_
      walk_at "st"
      rw [hb]
      exact h
  · exact h.elim
theorem ok_p_is_line (T : Tx P K mg) : FnG P w K mg base 3 T.f_p_is_line T.d_p_is_line ["many", "thing"] (spD K sp_p_is_line) := by
  have G_p_look_at_many := ok_p_look_at_many (P := P) (w := w) (base := base) T
  have G_p_is_whole := ok_p_is_whole (P := P) (w := w) (base := base) T
  exact fnG_of (k := 2) (t := t_p_is_line) T.F_p_is_line sc_p_is_line len_p_is_line
    (fun cdv A outer s H hr => pds_cons (pds_expr (pd_call G_p_look_at_many (hr.mono (by decide)) rfl T.g_p_look_at_many T.F_p_look_at_many.kp T.b_p_look_at_many_1 (pda_cons (pd_var 0) (pda_nil)))) (pds_cons (pds_if (pdt_w (pdw_or (pdt_not (pdt_val (pd_isi .list (by decide) rfl T.n_isinstance rfl T.n_list (by decide +kernel) (by decide) (by decide) (pd_var 1)))) (pdw_or1 (pdt_cmp (op_neF hr.r.units) opd_ne (pd_callB call_len cal_len rfl T.n_len (by decide +kernel) (pda_cons (pd_var 1) (pda_nil))) (pd_op op_addD opd_add (pd_var 0) (pd_int)))))) (pds_one (pds_ret (pd_bl))) (pds_nil)) (pds_one (pds_ret (pd_callB (cr_all rfl) cal_all rfl T.n_all (by decide +kernel) (pda_cons (pd_lc (own := [("part", 2)]) rfl sc_p_is_line.nd (pdi_list (pd_var 1)) (blkOk_by (own := [("part", 2)]) (by kernel_rfl)) (fun _ _ _ _ _ => pg_name (i := 2) sc_p_is_line.nd rfl (by first | exact .inl rfl | exact .inr rfl)) (tg_name (i := 2) (by decide)) (mon_name (i := 2)) (fun _ _ _ _ _ => pdts_nil) (fun _ _ _ _ _ => pd_call G_p_is_whole (hr.mono (by decide)) rfl T.g_p_is_whole T.F_p_is_whole.kp T.b_p_is_whole_1 (pda_cons (pd_var 2) (pda_nil)))) (pda_nil)))))))
    sem_p_is_line
def sp_p_is_wish : FS := fun ds ms P => match ds with
  | [.int i, d] => ∃ w, d = wiD w ∧ 0 ≤ i ∧ i ≤ 8 ∧ (w.fs.length : Int) = i ∧ P (.bl true) ms
  | _ => False
theorem len_p_is_wish : ∀ ds ms Q, sp_p_is_wish ds ms Q → ds.length = 2 := fun ds ms Q h => by
  unfold sp_p_is_wish at h
  split at h <;> first | rfl | exact h.elim
def t_p_is_wish : DTS := dSeq (dDrop (dCall 1 0 [0] sp_p_look_at_many (aCons (dVar 0) (aNil)) (aNil))) (dSeq (dIfS (dOr (dNot (dTest (dIsi .tuple (dVar 1)))) (dTest (dOp fNe (dCB cLen (aCons (dVar 1) (aNil))) (dC (.int 2))))) (dRet (dC (.bl false))) (dNext)) (dSeq (dAsg (dVar 1) (sTup 2 (sCons (sName 2) (sCons (sName 3) (sNil))))) (dSeq (dIfS (dOr (dNot (dTest (dIsi .str (dVar 2)))) (dTest (dOp fNotIn (dVar 2) (dTup (aCons (dC (.str "least")) (aCons (dC (.str "just")) (aNil))))))) (dRet (dC (.bl false))) (dNext)) (dRet (dCall 2 0 [0, 1] sp_p_is_line (aCons (dVar 0) (aCons (dVar 3) (aNil))) (aNil))))))
theorem in_wd {j : Bool} {ms : MS} {P : D → MS → Prop} (q : P (.bl false) ms) : InOk (wdD j) [.str "least", .str "just"] true ms P := by
  have e : ([PyData.str "least", PyData.str "just"].any fun z => PyData.eqv z (.str (if j then "just" else "least" : String))) = true := by cases j <;> decide +kernel
  have h0 : (Str.ofString (if j then "just" else "least" : String)).cps.all (· < 0x110000) = true := ofString_ok _
  refine ⟨.str (Str.ofString (if j then "just" else "least" : String)), [.str "least", .str "just"], ?_, rfl, h0, Nat.zero_le _, by decide +kernel, ?_⟩
  · unfold wdD; cases j <;> rfl
  · rw [e]; exact q
theorem sem_p_is_wish : ∀ ds ms Q, sp_p_is_wish ds ms Q → t_p_is_wish { nx := fun _ m => Q .non m, rt := Q } (startD 4 ds) ms := by
  intro ds ms Q h
  unfold sp_p_is_wish at h
  split at h
  · rename_i i d
    obtain ⟨w, rfl, h0, h8, hl, h⟩ := h
    simp only [startD]
    unfold t_p_is_wish
    walk_at "st"
    refine ⟨h0, h8, ?_⟩
    walk_at "st"
    unfold wiD
    walk_at "st"
    refine in_wd ?_
    walk_at "st"
    refine ⟨w.l :: w.fs, rfl, h0, h8, by rw [List.length_cons]; omega, ?_⟩
    exact h
  · exact h.elim
theorem ok_p_is_wish (T : Tx P K mg) : FnG P w K mg base 4 T.f_p_is_wish T.d_p_is_wish ["many", "thing"] (spD K sp_p_is_wish) := by
  have G_p_look_at_many := ok_p_look_at_many (P := P) (w := w) (base := base) T
  have G_p_is_line := ok_p_is_line (P := P) (w := w) (base := base) T
  exact fnG_of (k := 3) (t := t_p_is_wish) T.F_p_is_wish sc_p_is_wish len_p_is_wish
    (fun cdv A outer s H hr => pds_cons (pds_expr (pd_call G_p_look_at_many (hr.mono (by decide)) rfl T.g_p_look_at_many T.F_p_look_at_many.kp T.b_p_look_at_many_1 (pda_cons (pd_var 0) (pda_nil)))) (pds_cons (pds_if (pdt_w (pdw_or (pdt_not (pdt_val (pd_isi .tuple (by decide) rfl T.n_isinstance rfl T.n_tuple (by decide +kernel) (by decide) (by decide) (pd_var 1)))) (pdw_or1 (pdt_cmp (op_neF hr.r.units) opd_ne (pd_callB call_len cal_len rfl T.n_len (by decide +kernel) (pda_cons (pd_var 1) (pda_nil))) (pd_int))))) (pds_one (pds_ret (pd_bl))) (pds_nil)) (pds_cons (pds_asg (vs := [2, 3]) (pd_var 1) (pg_tup rfl (pgs_cons (pg_name (i := 2) sc_p_is_wish.nd rfl (.inl rfl)) (pgs_cons (pg_name (i := 3) sc_p_is_wish.nd rfl (.inl rfl)) (pgs_nil)))) (tg_tup (tgs_cons (tg_name (i := 2) (by decide)) (tgs_cons (tg_name (i := 3) (by decide)) (tgs_nil) (mon_name (i := 3))) (mon_name (i := 2))))) (pds_cons (pds_if (pdt_w (pdw_or (pdt_not (pdt_val (pd_isi .str (by decide) rfl T.n_isinstance rfl T.n_str (by decide +kernel) (by decide) (by decide) (pd_var 2)))) (pdw_or1 (pdt_cmp (op_notInF hr.r.units) opd_notIn (pd_var 2) (pd_tup (pda_cons (pd_glob (v := .str "least") rfl T.c_LEAST ⟨_, rfl⟩ (fun _ => .str _)) (pda_cons (pd_glob (v := .str "just") rfl T.c_JUST ⟨_, rfl⟩ (fun _ => .str _)) (pda_nil)))) (by rfl))))) (pds_one (pds_ret (pd_bl))) (pds_nil)) (pds_one (pds_ret (pd_call G_p_is_line (hr.mono (by decide)) rfl T.g_p_is_line T.F_p_is_line.kp T.b_p_is_line_2 (pda_cons (pd_var 0) (pda_cons (pd_var 3) (pda_nil))))))))))
    sem_p_is_wish
def sp_p_is_letters : FS := fun ds ms P => match ds with
  | [.str x, .int n] => n = 6 ∧ goodNm x = true ∧ P (.bl true) ms
  | _ => False
theorem len_p_is_letters : ∀ ds ms Q, sp_p_is_letters ds ms Q → ds.length = 2 := fun ds ms Q h => by
  unfold sp_p_is_letters at h
  split at h <;> first | rfl | exact h.elim
def t_p_is_letters : DTS := dSeq (dIfS (dOr (dNot (dTest (dIsi .str (dVar 0)))) (dOr (dTest (dOp fLt (dCB cLen (aCons (dVar 0) (aNil))) (dC (.int 1)))) (dTest (dOp fGt (dCB cLen (aCons (dVar 0) (aNil))) (dVar 1))))) (dRet (dC (.bl false))) (dNext)) (dRet (dCB cAll (aCons (dLc (iStrD (dVar 0)) (sName 2) (dYes) (dOp fInSign (dVar 2) (dC (.str "abcdefghijklmnopqrstuvwxyz"))) [2]) (aNil))))
theorem letters_lit : (Str.ofString "abcdefghijklmnopqrstuvwxyz").cps.toList = [97, 98, 99, 100, 101, 102, 103, 104, 105, 106, 107, 108, 109, 110, 111, 112, 113, 114, 115, 116, 117, 118, 119, 120, 121, 122] := by decide +kernel
theorem in_letters (c : Nat) : decide (c ∈ (Str.ofString "abcdefghijklmnopqrstuvwxyz").cps.toList) = (decide (97 ≤ c) && decide (c < 123)) := by
  rw [letters_lit, Bool.eq_iff_iff, decide_eq_true_iff, Bool.and_eq_true_iff, decide_eq_true_iff, decide_eq_true_iff]
  simp only [List.mem_cons, List.not_mem_nil, or_false]
  omega
theorem sem_p_is_letters : ∀ ds ms Q, sp_p_is_letters ds ms Q → t_p_is_letters { nx := fun _ m => Q .non m, rt := Q } (startD 3 ds) ms := by
  intro ds ms Q h
  unfold sp_p_is_letters at h
  split at h
  · rename_i x n
    obtain ⟨rfl, hg, h⟩ := h
    unfold goodNm at hg
    rw [Bool.and_eq_true_iff, Bool.and_eq_true_iff] at hg
    obtain ⟨⟨g1, g2⟩, g3⟩ := hg
    have g1 := of_decide_eq_true g1
    have g2 := of_decide_eq_true g2
    have sz : x.length ≤ sizeLine := Nat.le_trans g2 (by decide)
    simp only [startD]
    unfold t_p_is_letters
    walk_at "st"
    refine ⟨sz, ?_⟩
    walk_at "st"
    refine w_iteF (decide_eq_false (by omega)) ?_
    walk_at "st"
    refine ⟨sz, ?_⟩
    walk_at "st"
    refine w_iteF (decide_eq_false (by omega)) ?_
    walk_at "st"
    simp only [wipeD, List.set]
    have hl : x.cps.toList.length ≤ 6 := g2
    refine comp_e (fun c => D.str ⟨#[c]⟩) (fun c => D.bl (decide (97 ≤ c) && decide (c < 123))) x.cps.toList [] _ (by simp only [List.length_nil]; omega) (fun c hc P0 q => ?_) ?_
    · walk_at "st"
      rw [in_letters]
      exact q
    · rw [List.nil_append]
      walk_at "st"
      refine w_all (bls_map _ _) ?_
      rw [show (x.cps.toList.map fun c => decide (97 ≤ c) && decide (c < 123)).all id = x.cps.toList.all fun c => decide (97 ≤ c) && decide (c < 123) by rw [List.all_map]; rfl, g3]
      walk_at "st"
      exact h
  · exact h.elim
theorem ok_p_is_letters (T : Tx P K mg) : FnG P w K mg base 1 T.f_p_is_letters T.d_p_is_letters ["thing", "most"] (spD K sp_p_is_letters) := by
  exact fnG_of (k := 0) (t := t_p_is_letters) T.F_p_is_letters sc_p_is_letters len_p_is_letters
    (fun cdv A outer s H hr => pds_cons (pds_if (pdt_w (pdw_or (pdt_not (pdt_val (pd_isi .str (by decide) rfl T.n_isinstance rfl T.n_str (by decide +kernel) (by decide) (by decide) (pd_var 0)))) (pdw_or (pdt_cmp op_lt opd_lt (pd_callB call_len cal_len rfl T.n_len (by decide +kernel) (pda_cons (pd_var 0) (pda_nil))) (pd_int)) (pdw_or1 (pdt_cmp op_gt opd_gt (pd_callB call_len cal_len rfl T.n_len (by decide +kernel) (pda_cons (pd_var 0) (pda_nil))) (pd_var 1)))))) (pds_one (pds_ret (pd_bl))) (pds_nil)) (pds_one (pds_ret (pd_callB (cr_all rfl) cal_all rfl T.n_all (by decide +kernel) (pda_cons (pd_lc (own := [("sign", 2)]) rfl sc_p_is_letters.nd (pdi_str (pd_var 0)) (blkOk_by (own := [("sign", 2)]) (by kernel_rfl)) (fun _ _ _ _ _ => pg_name (i := 2) sc_p_is_letters.nd rfl (by first | exact .inl rfl | exact .inr rfl)) (tg_name (i := 2) (by decide)) (mon_name (i := 2)) (fun _ _ _ _ _ => pdts_nil) (fun _ _ _ _ _ => pd_cmp op_in_sign opd_inSign (pd_var 2) (pd_glob (v := .str "abcdefghijklmnopqrstuvwxyz") rfl T.c_LETTERS ⟨_, rfl⟩ (fun _ => .str _)) (by rfl))) (pda_nil))))))
    sem_p_is_letters
def sp_p_is_name : FS := fun ds ms P => match ds with
  | [.str x] => goodNm x = true ∧ P (.bl true) ms
  | _ => False
theorem len_p_is_name : ∀ ds ms Q, sp_p_is_name ds ms Q → ds.length = 1 := fun ds ms Q h => by
  unfold sp_p_is_name at h
  split at h <;> first | rfl | exact h.elim
def t_p_is_name : DTS := dRet (dCall 2 0 [0, 1] sp_p_is_letters (aCons (dVar 0) (aCons (dC (.int 6)) (aNil))) (aNil))
theorem sem_p_is_name : ∀ ds ms Q, sp_p_is_name ds ms Q → t_p_is_name { nx := fun _ m => Q .non m, rt := Q } (startD 1 ds) ms := by
  intro ds ms Q h
  unfold sp_p_is_name at h
  split at h
  · simp only [startD]
    unfold t_p_is_name
    walk_at "st"
    exact ⟨rfl, h⟩
  · exact h.elim
theorem ok_p_is_name (T : Tx P K mg) : FnG P w K mg base 2 T.f_p_is_name T.d_p_is_name ["thing"] (spD K sp_p_is_name) := by
  have G_p_is_letters := ok_p_is_letters (P := P) (w := w) (base := base) T
  exact fnG_of (k := 1) (t := t_p_is_name) T.F_p_is_name sc_p_is_name len_p_is_name
    (fun cdv A outer s H hr => pds_one (pds_ret (pd_call G_p_is_letters (hr.mono (by decide)) rfl T.g_p_is_letters T.F_p_is_letters.kp T.b_p_is_letters_2 (pda_cons (pd_var 0) (pda_cons (pd_glob (v := .int (6)) rfl T.c_LONGEST_NAME ⟨_, rfl⟩ (fun _ => .int _)) (pda_nil))))))
    sem_p_is_name
def sp_p_look_at_names : FS := fun ds ms P => match ds with
  | [.str _, .lst ys, .int n] => ∃ xs : List Str, ys = xs.map D.str ∧ 0 ≤ n ∧ n ≤ 6 ∧ NmOk n.toNat xs ∧ P .non ms
  | _ => False
theorem len_p_look_at_names : ∀ ds ms Q, sp_p_look_at_names ds ms Q → ds.length = 3 := fun ds ms Q h => by
  unfold sp_p_look_at_names at h
  split at h <;> first | rfl | exact h.elim
def t_p_look_at_names : DTS := dSeq (dIfS (dOr (dNot (dTest (dIsi .list (dVar 1)))) (dOr (dTest (dOp fLt (dCB cLen (aCons (dVar 1) (aNil))) (dC (.int 1)))) (dTest (dOp fGt (dCB cLen (aCons (dVar 1) (aNil))) (dVar 2))))) (dNever) (dNext)) (dFor (iEnumD (aCons (dVar 1) (aNil))) (sTup 2 (sCons (sName 3) (sCons (sName 4) (sNil)))) (dIfS (dOr (dNot (dTest (dCall 1 0 [0] sp_p_is_name (aCons (dVar 4) (aNil)) (aNil)))) (dTest (dOp fIn (dVar 4) (dSl (dVar 1) (oNone) (oSome (dVar 3)))))) (dNever) (dNext)))
theorem nm_notin {x : Str} {ys : List Str} {ms : MS} {P : D → MS → Prop} (hx : goodNm x = true) (hy : ∀ y ∈ ys, goodNm y = true) (hl : ys.length ≤ 100) (hn : x ∉ ys) (q : P (.bl false) ms) : InOk (.str x) (ys.map D.str) false ms P := by
  have py : ∀ ys : List Str, (∀ y ∈ ys, goodNm y = true) → toPys (ys.map D.str) = some (ys.map PyData.str) ∧ PyData.canLayAll0 (ys.map PyData.str) = true ∧ PyData.depthAll (ys.map PyData.str) = 0 := by
    intro ys
    induction ys with
    | nil => intro _; exact ⟨rfl, rfl, rfl⟩
    | cons y r ih =>
      intro h
      obtain ⟨e1, e2, e3⟩ := ih fun z hz => h z (List.mem_cons_of_mem _ hz)
      have ey : y.cps.all (· < 0x110000) = true := nm_ok (h y List.mem_cons_self)
      refine ⟨by rw [List.map_cons]; unfold toPys; rw [e1]; rfl, Bool.and_eq_true_iff.mpr ⟨ey, e2⟩, ?_⟩
      show max 0 (PyData.depthAll (r.map PyData.str)) = 0
      rw [e3]; rfl
  obtain ⟨e1, e2, e3⟩ := py ys hy
  refine ⟨.str x, ys.map PyData.str, rfl, e1, nm_ok hx, Nat.zero_le _, e2, ?_⟩
  · have e : ((ys.map PyData.str).any fun z => PyData.eqv z (.str x)) = false := by
      rw [List.any_map, List.any_eq_false]
      intro y hy z
      have z : (y == x) = true := z
      exact hn (beq_iff_eq.mp z ▸ hy)
    rw [e]
    exact q
theorem sem_p_look_at_names : ∀ ds ms Q, sp_p_look_at_names ds ms Q → t_p_look_at_names { nx := fun _ m => Q .non m, rt := Q } (startD 5 ds) ms := by
  intro ds ms Q h
  unfold sp_p_look_at_names at h
  split at h
  · rename_i part ys n
    obtain ⟨xs, rfl, n0, n6, ok, h⟩ := h
    have l1 := ok.l1
    have l2 := ok.l2
    simp only [startD]
    unfold t_p_look_at_names
    walk_at "st"
    refine w_iteF (decide_eq_false (by rw [List.length_map]; omega)) ?_
    walk_at "st"
    refine w_iteF (decide_eq_false (by rw [List.length_map]; omega)) ?_
    walk_at "st"
    refine loop_inv (fun ds m => m = ms ∧ ∃ x3 x4, ds = [some (.str part), some (.lst (xs.map D.str)), some (.int n), x3, x4]) _ _ _ ⟨rfl, _, _, rfl⟩ ?_ ?_
    · rintro d hd ds m ⟨rfl, x3, x4, rfl⟩ N hN
      obtain ⟨k, hk, rfl⟩ := enum_mem hd
      walk_at "st"
      refine ⟨ok.ok _ (List.getElem_mem hk), ?_⟩
      walk_at "st"
      rw [cut_to _ _ (by rw [List.length_map]; omega), ← List.map_take]
      refine nm_notin (ok.ok _ (List.getElem_mem hk)) (fun y hy => ok.ok y (List.mem_of_mem_take hy)) (by rw [List.length_take]; omega) (fun z => ?_) ?_
      · obtain ⟨j, hj, e⟩ := List.mem_iff_getElem.mp z
        rw [List.length_take] at hj
        rw [List.getElem_take] at e
        exact List.pairwise_iff_getElem.mp ok.nd j k (by omega) hk (by omega) e
      · walk_at "st"
        exact hN _ _ ⟨rfl, _, _, rfl⟩
    · rintro ds m ⟨rfl, _, _, rfl⟩
      exact h
  · exact h.elim
theorem ok_p_look_at_names (T : Tx P K mg) : FnG P w K mg base 3 T.f_p_look_at_names T.d_p_look_at_names ["part", "thing", "most"] (spD K sp_p_look_at_names) := by
  have G_p_is_name := ok_p_is_name (P := P) (w := w) (base := base) T
  exact fnG_of (k := 2) (t := t_p_look_at_names) T.F_p_look_at_names sc_p_look_at_names len_p_look_at_names
    (fun cdv A outer s H hr => pds_cons (pds_if (pdt_w (pdw_or (pdt_not (pdt_val (pd_isi .list (by decide) rfl T.n_isinstance rfl T.n_list (by decide +kernel) (by decide) (by decide) (pd_var 1)))) (pdw_or (pdt_cmp op_lt opd_lt (pd_callB call_len cal_len rfl T.n_len (by decide +kernel) (pda_cons (pd_var 1) (pda_nil))) (pd_int)) (pdw_or1 (pdt_cmp op_gt opd_gt (pd_callB call_len cal_len rfl T.n_len (by decide +kernel) (pda_cons (pd_var 1) (pda_nil))) (pd_var 2)))))) (pds_one (pds_never)) (pds_nil)) (pds_one (pds_for (vs := [3, 4]) rfl (pdi_enum rfl T.n_enumerate (pda_cons (pd_var 1) (pda_nil))) (pg_tup rfl (pgs_cons (pg_name (i := 3) sc_p_look_at_names.nd rfl (.inl rfl)) (pgs_cons (pg_name (i := 4) sc_p_look_at_names.nd rfl (.inl rfl)) (pgs_nil)))) (tg_tup (tgs_cons (tg_name (i := 3) (by decide)) (tgs_cons (tg_name (i := 4) (by decide)) (tgs_nil) (mon_name (i := 4))) (mon_name (i := 3)))) (pds_one (pds_if (pdt_w (pdw_or (pdt_not (pdt_val (pd_call G_p_is_name (hr.mono (by decide)) rfl T.g_p_is_name T.F_p_is_name.kp T.b_p_is_name_1 (pda_cons (pd_var 4) (pda_nil))))) (pdw_or1 (pdt_cmp (op_inF hr.r.units) opd_in (pd_var 4) (pd_slice (pd_var 1) (pdo_none) (pdo_some (pd_var 3))) (by rfl))))) (pds_one (pds_never)) (pds_nil))))))
    sem_p_look_at_names
def sp_p_is_wishes : FS := fun ds ms P => match ds with
  | [.int i, .lst ys] => ∃ (ws : List Wi) (B n : Nat), ys = ws.map wiD ∧ i = (n : Int) ∧ n ≤ 8 ∧ ws.length ≤ 12 ∧ (∀ w ∈ ws, WiOk B n w) ∧ P (.bl true) ms
  | _ => False
theorem len_p_is_wishes : ∀ ds ms Q, sp_p_is_wishes ds ms Q → ds.length = 2 := fun ds ms Q h => by
  unfold sp_p_is_wishes at h
  split at h <;> first | rfl | exact h.elim
def t_p_is_wishes : DTS := dSeq (dIfS (dOr (dNot (dTest (dIsi .list (dVar 1)))) (dTest (dOp fGt (dCB cLen (aCons (dVar 1) (aNil))) (dC (.int 12))))) (dRet (dC (.bl false))) (dNext)) (dRet (dCB cAll (aCons (dLc (iSeq (dVar 1)) (sName 2) (dYes) (dCall 2 0 [0, 1] sp_p_is_wish (aCons (dVar 0) (aCons (dVar 2) (aNil))) (aNil)) [2]) (aNil))))
theorem sem_p_is_wishes : ∀ ds ms Q, sp_p_is_wishes ds ms Q → t_p_is_wishes { nx := fun _ m => Q .non m, rt := Q } (startD 3 ds) ms := by
  intro ds ms Q h
  unfold sp_p_is_wishes at h
  split at h
  · rename_i i ys
    obtain ⟨ws, B, n, rfl, rfl, n8, wl, wo, h⟩ := h
    simp only [startD]
    unfold t_p_is_wishes
    walk_at "st"
    refine w_iteF (decide_eq_false (by rw [List.length_map]; omega)) ?_
    walk_at "st"
    simp only [wipeD, List.set]
    refine comp_e wiD (fun _ => D.bl true) ws [] _ (by simp; omega) (fun w hw P0 q => ?_) ?_
    · walk_at "st"
      exact ⟨w, rfl, by omega, by omega, by rw [(wo w hw).ln], q⟩
    · rw [List.nil_append]
      walk_at "st"
      obtain ⟨bs, e, hb⟩ := all_true (fun _ : Wi => D.bl true) (fun _ => rfl) ws
      refine w_all e ?_
      walk_at "st"
      rw [hb]
      exact h
  · exact h.elim
theorem ok_p_is_wishes (T : Tx P K mg) : FnG P w K mg base 5 T.f_p_is_wishes T.d_p_is_wishes ["many", "thing"] (spD K sp_p_is_wishes) := by
  have G_p_is_wish := ok_p_is_wish (P := P) (w := w) (base := base) T
  exact fnG_of (k := 4) (t := t_p_is_wishes) T.F_p_is_wishes sc_p_is_wishes len_p_is_wishes
    (fun cdv A outer s H hr => pds_cons (pds_if (pdt_w (pdw_or (pdt_not (pdt_val (pd_isi .list (by decide) rfl T.n_isinstance rfl T.n_list (by decide +kernel) (by decide) (by decide) (pd_var 1)))) (pdw_or1 (pdt_cmp op_gt opd_gt (pd_callB call_len cal_len rfl T.n_len (by decide +kernel) (pda_cons (pd_var 1) (pda_nil))) (pd_glob (v := .int (12)) rfl T.c_MOST_WISHES ⟨_, rfl⟩ (fun _ => .int _)))))) (pds_one (pds_ret (pd_bl))) (pds_nil)) (pds_one (pds_ret (pd_callB (cr_all rfl) cal_all rfl T.n_all (by decide +kernel) (pda_cons (pd_lc (own := [("wish", 2)]) rfl sc_p_is_wishes.nd (pdi_list (pd_var 1)) (blkOk_by (own := [("wish", 2)]) (by kernel_rfl)) (fun _ _ _ _ _ => pg_name (i := 2) sc_p_is_wishes.nd rfl (by first | exact .inl rfl | exact .inr rfl)) (tg_name (i := 2) (by decide)) (mon_name (i := 2)) (fun _ _ _ _ _ => pdts_nil) (fun _ _ _ _ _ => pd_call G_p_is_wish (hr.mono (by decide)) rfl T.g_p_is_wish T.F_p_is_wish.kp T.b_p_is_wish_2 (pda_cons (pd_var 0) (pda_cons (pd_var 2) (pda_nil))))) (pda_nil))))))
    sem_p_is_wishes
def sp_p_is_row : FS := fun ds ms P => match ds with
  | [.int a, .int b, d] => ∃ (r : Rw) (B sz pl : Nat), d = rwD r ∧ a = (sz : Int) ∧ b = (pl : Int) ∧ sz ≤ 3 ∧ RwOk B sz pl r ∧ P (.bl true) ms
  | _ => False
theorem len_p_is_row : ∀ ds ms Q, sp_p_is_row ds ms Q → ds.length = 3 := fun ds ms Q h => by
  unfold sp_p_is_row at h
  split at h <;> first | rfl | exact h.elim
def t_p_is_row : DTS := dSeq (dIfS (dOr (dNot (dTest (dIsi .tuple (dVar 2)))) (dTest (dOp fNe (dCB cLen (aCons (dVar 2) (aNil))) (dC (.int 3))))) (dRet (dC (.bl false))) (dNext)) (dSeq (dAsg (dVar 2) (sTup 3 (sCons (sName 3) (sCons (sName 4) (sCons (sName 5) (sNil)))))) (dSeq (dIfS (dOr (dNot (dTest (dCall 2 0 [0, 1] sp_p_is_one_of (aCons (dVar 1) (aCons (dVar 3) (aNil))) (aNil)))) (dNot (dTest (dCall 2 0 [0, 1] sp_p_is_one_of (aCons (dVar 1) (aCons (dVar 4) (aNil))) (aNil))))) (dRet (dC (.bl false))) (dNext)) (dRet (dCall 2 0 [0, 1] sp_p_is_wishes (aCons (dOp fMul (dC (.int 2)) (dVar 0)) (aCons (dVar 5) (aNil))) (aNil)))))
theorem sem_p_is_row : ∀ ds ms Q, sp_p_is_row ds ms Q → t_p_is_row { nx := fun _ m => Q .non m, rt := Q } (startD 6 ds) ms := by
  intro ds ms Q h
  unfold sp_p_is_row at h
  split at h
  · rename_i a b d
    obtain ⟨r, B, sz, pl, rfl, rfl, rfl, s3, ok, h⟩ := h
    simp only [startD]
    unfold t_p_is_row
    walk_at "st"
    unfold rwD
    walk_at "st"
    refine ⟨⟨_, rfl⟩, ?_⟩
    have hs : isAt (pl : Int) (.int r.s) = true := by
      show (decide (0 ≤ r.s) && decide (r.s < (pl : Int))) = true
      rw [decide_eq_true ok.s0, decide_eq_true ok.s1]; rfl
    have ht : isAt (pl : Int) (.int r.t) = true := by
      show (decide (0 ≤ r.t) && decide (r.t < (pl : Int))) = true
      rw [decide_eq_true ok.t0, decide_eq_true ok.t1]; rfl
    rw [hs]
    walk_at "st"
    refine ⟨⟨_, rfl⟩, ?_⟩
    rw [ht]
    walk_at "st"
    refine ⟨.inr (.inl ⟨by decide, by decide⟩), ?_⟩
    walk_at "st"
    refine ⟨r.ws, B, 2 * sz, rfl, by omega, by omega, ok.wl, ok.wo, ?_⟩
    exact h
  · exact h.elim
theorem ok_p_is_row (T : Tx P K mg) : FnG P w K mg base 6 T.f_p_is_row T.d_p_is_row ["names", "places", "thing"] (spD K sp_p_is_row) := by
  have G_p_is_wishes := ok_p_is_wishes (P := P) (w := w) (base := base) T
  have G_p_is_one_of := ok_p_is_one_of (P := P) (w := w) (base := base) T
  exact fnG_of (k := 5) (t := t_p_is_row) T.F_p_is_row sc_p_is_row len_p_is_row
    (fun cdv A outer s H hr => pds_cons (pds_if (pdt_w (pdw_or (pdt_not (pdt_val (pd_isi .tuple (by decide) rfl T.n_isinstance rfl T.n_tuple (by decide +kernel) (by decide) (by decide) (pd_var 2)))) (pdw_or1 (pdt_cmp (op_neF hr.r.units) opd_ne (pd_callB call_len cal_len rfl T.n_len (by decide +kernel) (pda_cons (pd_var 2) (pda_nil))) (pd_int))))) (pds_one (pds_ret (pd_bl))) (pds_nil)) (pds_cons (pds_asg (vs := [3, 4, 5]) (pd_var 2) (pg_tup rfl (pgs_cons (pg_name (i := 3) sc_p_is_row.nd rfl (.inl rfl)) (pgs_cons (pg_name (i := 4) sc_p_is_row.nd rfl (.inl rfl)) (pgs_cons (pg_name (i := 5) sc_p_is_row.nd rfl (.inl rfl)) (pgs_nil))))) (tg_tup (tgs_cons (tg_name (i := 3) (by decide)) (tgs_cons (tg_name (i := 4) (by decide)) (tgs_cons (tg_name (i := 5) (by decide)) (tgs_nil) (mon_name (i := 5))) (mon_name (i := 4))) (mon_name (i := 3))))) (pds_cons (pds_if (pdt_w (pdw_or (pdt_not (pdt_val (pd_call G_p_is_one_of (hr.mono (by decide)) rfl T.g_p_is_one_of T.F_p_is_one_of.kp T.b_p_is_one_of_2 (pda_cons (pd_var 1) (pda_cons (pd_var 3) (pda_nil)))))) (pdw_or1 (pdt_not (pdt_val (pd_call G_p_is_one_of (hr.mono (by decide)) rfl T.g_p_is_one_of T.F_p_is_one_of.kp T.b_p_is_one_of_2 (pda_cons (pd_var 1) (pda_cons (pd_var 4) (pda_nil))))))))) (pds_one (pds_ret (pd_bl))) (pds_nil)) (pds_one (pds_ret (pd_call G_p_is_wishes (hr.mono (by decide)) rfl T.g_p_is_wishes T.F_p_is_wishes.kp T.b_p_is_wishes_2 (pda_cons (pd_op op_mulA opd_mul (pd_int) (pd_var 0)) (pda_cons (pd_var 5) (pda_nil)))))))))
    sem_p_is_row
def sp_p_look_at_rows : FS := fun ds ms P => match ds with
  | [.int a, .int b, .lst ys] => ∃ (rs : List Rw) (B sz pl : Nat), ys = rs.map rwD ∧ a = (sz : Int) ∧ b = (pl : Int) ∧ sz ≤ 3 ∧ rs.length ≤ 10 ∧ (∀ r ∈ rs, RwOk B sz pl r) ∧ P .non ms
  | _ => False
theorem len_p_look_at_rows : ∀ ds ms Q, sp_p_look_at_rows ds ms Q → ds.length = 3 := fun ds ms Q h => by
  unfold sp_p_look_at_rows at h
  split at h <;> first | rfl | exact h.elim
def t_p_look_at_rows : DTS := dSeq (dIfS (dOr (dNot (dTest (dIsi .list (dVar 2)))) (dTest (dOp fGt (dCB cLen (aCons (dVar 2) (aNil))) (dC (.int 10))))) (dNever) (dNext)) (dFor (iEnumD (aCons (dVar 2) (aNil))) (sTup 2 (sCons (sName 3) (sCons (sName 4) (sNil)))) (dIfS (dNot (dTest (dCall 3 0 [0, 1, 2] sp_p_is_row (aCons (dVar 0) (aCons (dVar 1) (aCons (dVar 4) (aNil)))) (aNil)))) (dNever) (dNext)))
theorem sem_p_look_at_rows : ∀ ds ms Q, sp_p_look_at_rows ds ms Q → t_p_look_at_rows { nx := fun _ m => Q .non m, rt := Q } (startD 5 ds) ms := by
  intro ds ms Q h
  unfold sp_p_look_at_rows at h
  split at h
  · rename_i a b ys
    obtain ⟨rs, B, sz, pl, rfl, rfl, rfl, s3, rl, ro, h⟩ := h
    simp only [startD]
    unfold t_p_look_at_rows
    walk_at "st"
    refine w_iteF (decide_eq_false (by rw [List.length_map]; omega)) ?_
    walk_at "st"
    refine loop_inv (fun ds m => m = ms ∧ ∃ x3 x4, ds = [some (.int (sz : Int)), some (.int (pl : Int)), some (.lst (rs.map rwD)), x3, x4]) _ _ _ ⟨rfl, _, _, rfl⟩ ?_ ?_
    · rintro d hd ds m ⟨rfl, x3, x4, rfl⟩ N hN
      obtain ⟨k, hk, rfl⟩ := enum_mem hd
      walk_at "st"
      refine ⟨_, B, sz, pl, rfl, rfl, rfl, s3, ro _ (List.getElem_mem hk), ?_⟩
      walk_at "st"
      exact hN _ _ ⟨rfl, _, _, rfl⟩
    · rintro ds m ⟨rfl, _, _, rfl⟩
      exact h
  · exact h.elim
theorem ok_p_look_at_rows (T : Tx P K mg) : FnG P w K mg base 7 T.f_p_look_at_rows T.d_p_look_at_rows ["names", "places", "thing"] (spD K sp_p_look_at_rows) := by
  have G_p_is_row := ok_p_is_row (P := P) (w := w) (base := base) T
  exact fnG_of (k := 6) (t := t_p_look_at_rows) T.F_p_look_at_rows sc_p_look_at_rows len_p_look_at_rows
    (fun cdv A outer s H hr => pds_cons (pds_if (pdt_w (pdw_or (pdt_not (pdt_val (pd_isi .list (by decide) rfl T.n_isinstance rfl T.n_list (by decide +kernel) (by decide) (by decide) (pd_var 2)))) (pdw_or1 (pdt_cmp op_gt opd_gt (pd_callB call_len cal_len rfl T.n_len (by decide +kernel) (pda_cons (pd_var 2) (pda_nil))) (pd_glob (v := .int (10)) rfl T.c_MOST_ROWS ⟨_, rfl⟩ (fun _ => .int _)))))) (pds_one (pds_never)) (pds_nil)) (pds_one (pds_for (vs := [3, 4]) rfl (pdi_enum rfl T.n_enumerate (pda_cons (pd_var 2) (pda_nil))) (pg_tup rfl (pgs_cons (pg_name (i := 3) sc_p_look_at_rows.nd rfl (.inl rfl)) (pgs_cons (pg_name (i := 4) sc_p_look_at_rows.nd rfl (.inl rfl)) (pgs_nil)))) (tg_tup (tgs_cons (tg_name (i := 3) (by decide)) (tgs_cons (tg_name (i := 4) (by decide)) (tgs_nil) (mon_name (i := 4))) (mon_name (i := 3)))) (pds_one (pds_if (pdt_not (pdt_val (pd_call G_p_is_row (hr.mono (by decide)) rfl T.g_p_is_row T.F_p_is_row.kp T.b_p_is_row_3 (pda_cons (pd_var 0) (pda_cons (pd_var 1) (pda_cons (pd_var 4) (pda_nil))))))) (pds_one (pds_never)) (pds_nil))))))
    sem_p_look_at_rows
def sp_p_look_at : FS := fun ds ms P => match ds with
  | [d] => ∃ (g : Pg) (B : Nat), d = pgD g ∧ PgOk B g ∧ P .non ms
  | _ => False
theorem len_p_look_at : ∀ ds ms Q, sp_p_look_at ds ms Q → ds.length = 1 := fun ds ms Q h => by
  unfold sp_p_look_at at h
  split at h <;> first | rfl | exact h.elim
def t_p_look_at : DTS := dSeq (dIfS (dOr (dNot (dTest (dIsi .tuple (dVar 0)))) (dTest (dOp fNe (dCB cLen (aCons (dVar 0) (aNil))) (dC (.int 3))))) (dNever) (dNext)) (dSeq (dAsg (dVar 0) (sTup 3 (sCons (sName 1) (sCons (sName 2) (sCons (sName 3) (sNil)))))) (dSeq (dDrop (dCall 3 0 [0, 1, 2] sp_p_look_at_names (aCons (dC (.str "names")) (aCons (dVar 1) (aCons (dC (.int 3)) (aNil)))) (aNil))) (dSeq (dDrop (dCall 3 0 [0, 1, 2] sp_p_look_at_names (aCons (dC (.str "places")) (aCons (dVar 2) (aCons (dC (.int 6)) (aNil)))) (aNil))) (dDrop (dCall 3 0 [0, 1, 2] sp_p_look_at_rows (aCons (dCB cLen (aCons (dVar 1) (aNil))) (aCons (dCB cLen (aCons (dVar 2) (aNil))) (aCons (dVar 3) (aNil)))) (aNil))))))
theorem sem_p_look_at : ∀ ds ms Q, sp_p_look_at ds ms Q → t_p_look_at { nx := fun _ m => Q .non m, rt := Q } (startD 4 ds) ms := by
  intro ds ms Q h
  unfold sp_p_look_at at h
  split at h
  · rename_i d
    obtain ⟨g, B, rfl, ok, h⟩ := h
    simp only [startD]
    unfold t_p_look_at
    walk_at "st"
    unfold pgD
    walk_at "st"
    refine ⟨g.nm, rfl, by decide, by decide, ok.nm, ?_⟩
    walk_at "st"
    refine ⟨g.pm, rfl, by decide, by decide, ok.pm, ?_⟩
    walk_at "st"
    rw [List.length_map, List.length_map]
    exact ⟨g.rs, B, g.nm.length, g.pm.length, rfl, rfl, rfl, ok.nm.l2, ok.rl, ok.ro, h⟩
  · exact h.elim
theorem ok_p_look_at (T : Tx P K mg) : FnG P w K mg base 8 T.f_p_look_at T.d_p_look_at ["thing"] (spD K sp_p_look_at) := by
  have G_p_look_at_names := ok_p_look_at_names (P := P) (w := w) (base := base) T
  have G_p_look_at_rows := ok_p_look_at_rows (P := P) (w := w) (base := base) T
  exact fnG_of (k := 7) (t := t_p_look_at) T.F_p_look_at sc_p_look_at len_p_look_at
    (fun cdv A outer s H hr => pds_cons (pds_if (pdt_w (pdw_or (pdt_not (pdt_val (pd_isi .tuple (by decide) rfl T.n_isinstance rfl T.n_tuple (by decide +kernel) (by decide) (by decide) (pd_var 0)))) (pdw_or1 (pdt_cmp (op_neF hr.r.units) opd_ne (pd_callB call_len cal_len rfl T.n_len (by decide +kernel) (pda_cons (pd_var 0) (pda_nil))) (pd_int))))) (pds_one (pds_never)) (pds_nil)) (pds_cons (pds_asg (vs := [1, 2, 3]) (pd_var 0) (pg_tup rfl (pgs_cons (pg_name (i := 1) sc_p_look_at.nd rfl (.inl rfl)) (pgs_cons (pg_name (i := 2) sc_p_look_at.nd rfl (.inl rfl)) (pgs_cons (pg_name (i := 3) sc_p_look_at.nd rfl (.inl rfl)) (pgs_nil))))) (tg_tup (tgs_cons (tg_name (i := 1) (by decide)) (tgs_cons (tg_name (i := 2) (by decide)) (tgs_cons (tg_name (i := 3) (by decide)) (tgs_nil) (mon_name (i := 3))) (mon_name (i := 2))) (mon_name (i := 1))))) (pds_cons (pds_expr (pd_call G_p_look_at_names (hr.mono (by decide)) rfl T.g_p_look_at_names T.F_p_look_at_names.kp T.b_p_look_at_names_3 (pda_cons (pd_str) (pda_cons (pd_var 1) (pda_cons (pd_glob (v := .int (3)) rfl T.c_MOST_NAMES ⟨_, rfl⟩ (fun _ => .int _)) (pda_nil)))))) (pds_cons (pds_expr (pd_call G_p_look_at_names (hr.mono (by decide)) rfl T.g_p_look_at_names T.F_p_look_at_names.kp T.b_p_look_at_names_3 (pda_cons (pd_str) (pda_cons (pd_var 2) (pda_cons (pd_glob (v := .int (6)) rfl T.c_MOST_PLACES ⟨_, rfl⟩ (fun _ => .int _)) (pda_nil)))))) (pds_one (pds_expr (pd_call G_p_look_at_rows (hr.mono (by decide)) rfl T.g_p_look_at_rows T.F_p_look_at_rows.kp T.b_p_look_at_rows_3 (pda_cons (pd_callB call_len cal_len rfl T.n_len (by decide +kernel) (pda_cons (pd_var 1) (pda_nil))) (pda_cons (pd_callB call_len cal_len rfl T.n_len (by decide +kernel) (pda_cons (pd_var 2) (pda_nil))) (pda_cons (pd_var 3) (pda_nil)))))))))))
    sem_p_look_at
def Frsh : MS → MS → Prop
  | [], _ => True
  | q :: L, ms => (∀ e ∈ L ++ ms, e.1 ≠ q.1) ∧ Frsh L ms
theorem frsh_app : ∀ {L M ms : MS}, Frsh L (M ++ ms) → Frsh M ms → Frsh (L ++ M) ms
  | [], _, _, _, h => h
  | q :: L, M, ms, ⟨h1, h2⟩, h => ⟨fun e he => h1 e (by
      have he : e ∈ (L ++ M) ++ ms := he
      rwa [List.append_assoc] at he), frsh_app h2 h⟩
theorem frsh_off {L ms : MS} : Frsh L ms → ∀ q ∈ L, ∀ e ∈ ms, e.1 ≠ q.1 := by
  induction L with
  | nil => intro _ q hq; cases hq
  | cons r L ih =>
    rintro ⟨h1, h2⟩ q hq e he
    rcases List.mem_cons.mp hq with rfl | hq
    · exact h1 e (List.mem_append_right _ he)
    · exact ih h2 q hq e he
theorem look_off : ∀ {L ms : MS} {p : Addr}, (∀ q ∈ L, q.1 ≠ p) → look (L ++ ms) p = look ms p
  | [], _, _, _ => rfl
  | (a, xs) :: L, ms, p, h => by
    show (if a = p then some xs else look (L ++ ms) p) = look ms p
    rw [if_neg (h (a, xs) List.mem_cons_self)]
    exact look_off fun q hq => h q (List.mem_cons_of_mem _ hq)
theorem flatM_app {L ms : MS} (h : flatM L) (k : flatM ms) : flatM (L ++ ms) := fun q hq => (List.mem_append.mp hq).elim (h q) (k q)
theorem frsh_nd : ∀ {L ms : MS}, Frsh L ms → (L.map (·.1)).Nodup
  | [], _, _ => List.nodup_nil
  | q :: L, ms, ⟨h1, h2⟩ => by
    rw [List.map_cons, List.nodup_cons]
    refine ⟨fun z => ?_, frsh_nd h2⟩
    obtain ⟨e, he, z⟩ := List.mem_map.mp z
    exact h1 e (List.mem_append_left _ he) z
theorem frsh_map : ∀ {L M ms : MS}, L.map (·.1) = M.map (·.1) → Frsh M ms → Frsh L ms
  | [], _, _, _, _ => trivial
  | q :: L, [], _, e, _ => by cases e
  | q :: L, r :: M, ms, e, ⟨h1, h2⟩ => by
    rw [List.map_cons, List.map_cons] at e
    injection e with e1 e2
    refine ⟨fun x hx => ?_, frsh_map e2 h2⟩
    rw [e1]
    rcases List.mem_append.mp hx with hx | hx
    · have : x.1 ∈ M.map (·.1) := by rw [← e2]; exact List.mem_map_of_mem hx
      obtain ⟨y, hy, ey⟩ := List.mem_map.mp this
      rw [← ey]
      exact h1 y (List.mem_append_left _ hy)
    · exact h1 x (List.mem_append_right _ hx)
theorem look_in {a : Addr} {ys : List D} : ∀ {L ms : MS}, Frsh L ms → (a, ys) ∈ L → look (L ++ ms) a = some ys
  | [], _, _, h => by cases h
  | (b, xs) :: L, ms, ⟨h1, h2⟩, h => by
    show (if b = a then some xs else look (L ++ ms) a) = some ys
    rcases List.mem_cons.mp h with z | h
    · cases z; rw [if_pos rfl]
    · rw [if_neg fun z => h1 (a, ys) (List.mem_append_left _ h) z.symm]
      exact look_in h2 h
theorem put_adr (a : Addr) (ys : List D) : ∀ M : MS, (put M a ys).map (·.1) = M.map (·.1)
  | [] => rfl
  | (b, xs) :: r => by
    unfold put
    by_cases e : b = a
    · rw [if_pos e]; rw [List.map_cons, List.map_cons, e]
    · rw [if_neg e, List.map_cons, List.map_cons, put_adr a ys r]
theorem put_app {a : Addr} {ys : List D} : ∀ {M ms : MS}, a ∈ M.map (·.1) → put (M ++ ms) a ys = put M a ys ++ ms
  | [], _, h => by cases h
  | (b, xs) :: r, ms, h => by
    show put ((b, xs) :: (r ++ ms)) a ys = _
    unfold put
    by_cases e : b = a
    · rw [if_pos e, if_pos e]; rfl
    · rw [if_neg e, if_neg e]
      rcases List.mem_cons.mp h with z | h
      · exact absurd z.symm e
      · rw [put_app h]; rfl
theorem put_flat {a : Addr} {ys : List D} : ∀ {M : MS}, flatM M → flats ys = true → flatM (put M a ys)
  | [], _, _ => fun _ h => by cases h
  | (b, xs) :: r, h, hy => by
    unfold put
    by_cases e : b = a
    · rw [if_pos e]
      intro q hq
      rcases List.mem_cons.mp hq with rfl | hq
      · exact hy
      · exact h q (List.mem_cons_of_mem _ hq)
    · rw [if_neg e]
      intro q hq
      rcases List.mem_cons.mp hq with rfl | hq
      · exact h _ List.mem_cons_self
      · exact put_flat (fun z hz => h z (List.mem_cons_of_mem _ hz)) hy q hq
theorem flats_app : ∀ {xs ys : List D}, flats xs = true → flats ys = true → flats (xs ++ ys) = true
  | [], _, _, h => h
  | x :: r, ys, h, k => by
    obtain ⟨h1, h2⟩ := Bool.and_eq_true_iff.mp h
    exact Bool.and_eq_true_iff.mpr ⟨h1, flats_app h2 k⟩
theorem flats_all {α : Type} {f : α → D} (h : ∀ x, flat (f x) = true) : ∀ xs : List α, flats (xs.map f) = true
  | [] => rfl
  | x :: r => by
    rw [List.map_cons]
    exact Bool.and_eq_true_iff.mpr ⟨h x, flats_all h r⟩
inductive All2 {α β : Type} (G : α → β → Prop) : List α → List β → Prop
  | nil : All2 G [] []
  | cons {x : α} {y : β} {xs : List α} {ys : List β} : G x y → All2 G xs ys → All2 G (x :: xs) (y :: ys)
theorem flatsI : ∀ is : List Int, flats (is.map D.int) = true := flats_all fun _ => rfl
/-- a comprehension each of whose items is made anew -/
theorem comp_new {α β : Type} {g : DG} {te : DE} {ds : DS} (e : α → D) (f : β → D) (G : α → β → Prop) (J : List β → MS → Prop) : ∀ (xs : List α) (bs : List β) (ms : MS) (P : List D → MS → Prop), bs.length + xs.length ≤ 1000000 → J bs ms →
    (∀ x ∈ xs, ∀ bs ms, J bs ms → ∀ K : D → MS → Prop, (∀ y m', G x y → J (bs ++ [y]) m' → K (f y) m') → g (e x) ds fun ds2 => te ds2 ms K) →
    (∀ (ys : List β) (m' : MS), All2 G xs ys → J (bs ++ ys) m' → P ((bs ++ ys).map f) m') → compD g dYes te ds (xs.map e) (bs.map f) ms P
  | [], bs, ms, P, _, hJ, _, h => by
    have := h [] ms .nil (by rw [List.append_nil]; exact hJ)
    rw [List.append_nil] at this
    exact this
  | x :: r, bs, ms, P, hl, hJ, t, h => by
    rw [List.length_cons] at hl
    rw [List.map_cons]
    unfold compD
    refine t x List.mem_cons_self bs ms hJ (fun y m4 => (bs.map f).length < sizeLine ∧ compD g dYes te ds (r.map e) (bs.map f ++ [y]) m4 P) fun y m' hG hJ' => ?_
    refine ⟨by rw [List.length_map]; exact Nat.lt_of_lt_of_le (by omega : bs.length < 1000001) (by decide), ?_⟩
    rw [show bs.map f ++ [f y] = (bs ++ [y]).map f by rw [List.map_append]; rfl]
    refine comp_new e f G J r (bs ++ [y]) m' P (by rw [List.length_append, List.length_singleton]; omega) hJ' (fun z hz => t z (List.mem_cons_of_mem _ hz)) fun ys m2 at_ j => ?_
    have := h (y :: ys) m2 (.cons hG at_) (by rw [List.append_assoc] at j; exact j)
    rw [List.append_assoc]
    exact this
/-- a wish told anew -/
structure LW where
  w : Wi
  a : Addr
def lwD (x : LW) : D := .tup [wdD x.w.j, .opq (.ref x.a)]
def lwM (x : LW) : Addr × List D := (x.a, x.w.ls.map D.int)
def wsN (bs : List LW) : MS := (bs.map lwM).reverse
def wsM (q : Addr) (bs : List LW) : MS := (q, bs.map lwD) :: wsN bs
theorem wsN_snoc (bs : List LW) (x : LW) : wsN (bs ++ [x]) = lwM x :: wsN bs := by unfold wsN; rw [List.map_append, List.reverse_append]; rfl
theorem fall_map {α β γ : Type} {f : α → γ} {h : β → γ} {G : α → β → Prop} (e : ∀ x y, G x y → h y = f x) : ∀ {xs : List α} {ys : List β}, All2 G xs ys → ys.map h = xs.map f
  | _, _, .nil => rfl
  | _, _, .cons a r => by rw [List.map_cons, List.map_cons, e _ _ a, fall_map e r]
def sp_p_copied_wishes : FS := fun ds ms P => match ds with
  | [.lst ys] => ∃ ws : List Wi, ys = ws.map wiD ∧ ws.length ≤ 1000 ∧ ∀ q bs, bs.map LW.w = ws → Frsh (wsM q bs) ms → P (.opq (.ref q)) (wsM q bs ++ ms)
  | _ => False
theorem len_p_copied_wishes : ∀ ds ms Q, sp_p_copied_wishes ds ms Q → ds.length = 1 := fun ds ms Q h => by
  unfold sp_p_copied_wishes at h
  split at h <;> first | rfl | exact h.elim
def t_p_copied_wishes : DTS := dRet (dLcM (iSeq (dVar 0)) (sTup 2 (sCons (sName 1) (sCons (sName 2) (sNil)))) (dYes) (dTup (aCons (dVar 1) (aCons (dCB cListM (aCons (dVar 2) (aNil))) (aNil)))) [1, 2])
theorem sem_p_copied_wishes : ∀ ds ms Q, sp_p_copied_wishes ds ms Q → t_p_copied_wishes { nx := fun _ m => Q .non m, rt := Q } (startD 3 ds) ms := by
  intro ds ms Q h
  unfold sp_p_copied_wishes at h
  split at h
  · obtain ⟨ws, rfl, hl, h⟩ := h
    simp only [startD]
    unfold t_p_copied_wishes
    walk_at "st"
    simp only [wipeD, List.set]
    refine (show compD _ _ _ _ _ (([] : List LW).map lwD) _ _ from ?_)
    refine comp_new wiD lwD (fun w b => b.w = w) (fun bs m => m = wsN bs ++ ms ∧ Frsh (wsN bs) ms) ws [] _ _ (by rw [List.length_nil]; omega) ⟨rfl, trivial⟩ (fun w hw bs m hJ K hK => ?_) ?_
    · obtain ⟨rfl, fr0⟩ := hJ
      unfold wiD
      walk_at "st"
      intro q hq
      walk_at "st"
      exact hK ⟨w, q⟩ _ rfl ⟨by rw [wsN_snoc]; rfl, by rw [wsN_snoc]; exact ⟨hq, fr0⟩⟩
    intro bs m at_ hJ
    obtain ⟨rfl, fr0⟩ := hJ
    rw [List.nil_append] at fr0 ⊢
    intro q hq
    walk_at "st"
    exact h q bs ((fall_map (h := LW.w) (f := id) (fun _ _ e => e) at_).trans (List.map_id _)) ⟨hq, fr0⟩
  · exact h.elim
theorem ok_p_copied_wishes (T : Tx P K mg) : FnG P w K mg base 1 T.f_p_copied_wishes T.d_p_copied_wishes ["wishes"] (spD K sp_p_copied_wishes) := by
  exact fnG_of (k := 0) (t := t_p_copied_wishes) T.F_p_copied_wishes sc_p_copied_wishes len_p_copied_wishes
    (fun cdv A outer s H hr => pds_one (pds_ret (pd_lcM (own := [("word", 1), ("line", 2)]) rfl sc_p_copied_wishes.nd (pdi_list (pd_var 0)) (blkOk_by (own := [("word", 1), ("line", 2)]) (by kernel_rfl)) (fun _ _ _ _ _ => pg_tup rfl (pgs_cons (pg_name (i := 1) sc_p_copied_wishes.nd rfl (by first | exact .inl rfl | exact .inr rfl)) (pgs_cons (pg_name (i := 2) sc_p_copied_wishes.nd rfl (by first | exact .inl rfl | exact .inr rfl)) (pgs_nil)))) (tg_tup (tgs_cons (tg_name (i := 1) (by decide)) (tgs_cons (tg_name (i := 2) (by decide)) (tgs_nil) (mon_name (i := 2))) (mon_name (i := 1)))) (mon_tup (mon_cons (mon_name (i := 1)) (mon_cons (mon_name (i := 2)) (mon_nil)))) (fun _ _ _ _ _ => pdts_nil) (fun _ _ _ _ _ => pd_tup (pda_cons (pd_var 1) (pda_cons (pd_callTy call_list_of cal_listM rfl T.n_list (by decide +kernel) (pda_cons (pd_var 2) (pda_nil))) (pda_nil)))))))
    sem_p_copied_wishes
/-- a row told anew -/
structure LR where
  s : Int
  t : Int
  a : Addr
  bs : List LW
def LR.rw (x : LR) : Rw := ⟨x.s, x.t, x.bs.map LW.w⟩
def lrD (x : LR) : D := .tup [.int x.s, .int x.t, .opq (.ref x.a)]
def rsN : List LR → MS
  | [] => []
  | x :: r => rsN r ++ wsM x.a x.bs
theorem rsN_snoc : ∀ (xs : List LR) (x : LR), rsN (xs ++ [x]) = wsM x.a x.bs ++ rsN xs
  | [], x => by show [] ++ wsM x.a x.bs = _; rw [List.nil_append]; show _ = _ ++ []; rw [List.append_nil]
  | y :: r, x => by
    show rsN (r ++ [x]) ++ wsM y.a y.bs = _ ++ (rsN r ++ _)
    rw [rsN_snoc r x, List.append_assoc]
def rsM (q : Addr) (xs : List LR) : MS := (q, xs.map lrD) :: rsN xs
def sp_p_copied_rows : FS := fun ds ms P => match ds with
  | [.lst ys] => ∃ rs : List Rw, ys = rs.map rwD ∧ rs.length ≤ 1000 ∧ (∀ r ∈ rs, r.ws.length ≤ 1000) ∧ ∀ q xs, xs.map LR.rw = rs → Frsh (rsM q xs) ms → P (.opq (.ref q)) (rsM q xs ++ ms)
  | _ => False
theorem len_p_copied_rows : ∀ ds ms Q, sp_p_copied_rows ds ms Q → ds.length = 1 := fun ds ms Q h => by
  unfold sp_p_copied_rows at h
  split at h <;> first | rfl | exact h.elim
def t_p_copied_rows : DTS := dRet (dLcM (iSeq (dVar 0)) (sTup 3 (sCons (sName 1) (sCons (sName 2) (sCons (sName 3) (sNil))))) (dYes) (dTup (aCons (dVar 1) (aCons (dVar 2) (aCons (dCall 1 0 [0] sp_p_copied_wishes (aCons (dVar 3) (aNil)) (aNil)) (aNil))))) [1, 2, 3])
theorem sem_p_copied_rows : ∀ ds ms Q, sp_p_copied_rows ds ms Q → t_p_copied_rows { nx := fun _ m => Q .non m, rt := Q } (startD 4 ds) ms := by
  intro ds ms Q h
  unfold sp_p_copied_rows at h
  split at h
  · obtain ⟨rs, rfl, hl, hw, h⟩ := h
    simp only [startD]
    unfold t_p_copied_rows
    walk_at "st"
    simp only [wipeD, List.set]
    refine (show compD _ _ _ _ _ (([] : List LR).map lrD) _ _ from ?_)
    refine comp_new rwD lrD (fun r x => x.rw = r) (fun xs m => m = rsN xs ++ ms ∧ Frsh (rsN xs) ms) rs [] _ _ (by rw [List.length_nil]; omega) ⟨rfl, trivial⟩ (fun r hr xs m hJ K hK => ?_) ?_
    · obtain ⟨rfl, fr0⟩ := hJ
      unfold rwD
      walk_at "st"
      refine ⟨r.ws, rfl, hw r hr, fun q bs e fr1 => ?_⟩
      walk_at "st"
      exact hK ⟨r.s, r.t, q, bs⟩ _ (by unfold LR.rw; rw [e]) ⟨by rw [rsN_snoc, List.append_assoc], by rw [rsN_snoc]; exact frsh_app fr1 fr0⟩
    intro xs m at_ hJ
    obtain ⟨rfl, fr0⟩ := hJ
    rw [List.nil_append] at fr0 ⊢
    intro q hq
    walk_at "st"
    exact h q xs ((fall_map (h := LR.rw) (f := id) (fun _ _ e => e) at_).trans (List.map_id _)) ⟨hq, fr0⟩
  · exact h.elim
theorem ok_p_copied_rows (T : Tx P K mg) : FnG P w K mg base 2 T.f_p_copied_rows T.d_p_copied_rows ["rows"] (spD K sp_p_copied_rows) := by
  have G_p_copied_wishes := ok_p_copied_wishes (P := P) (w := w) (base := base) T
  exact fnG_of (k := 1) (t := t_p_copied_rows) T.F_p_copied_rows sc_p_copied_rows len_p_copied_rows
    (fun cdv A outer s H hr => pds_one (pds_ret (pd_lcM (own := [("start", 1), ("to", 2), ("wishes", 3)]) rfl sc_p_copied_rows.nd (pdi_list (pd_var 0)) (blkOk_by (own := [("start", 1), ("to", 2), ("wishes", 3)]) (by kernel_rfl)) (fun _ _ _ _ _ => pg_tup rfl (pgs_cons (pg_name (i := 1) sc_p_copied_rows.nd rfl (by first | exact .inl rfl | exact .inr rfl)) (pgs_cons (pg_name (i := 2) sc_p_copied_rows.nd rfl (by first | exact .inl rfl | exact .inr rfl)) (pgs_cons (pg_name (i := 3) sc_p_copied_rows.nd rfl (by first | exact .inl rfl | exact .inr rfl)) (pgs_nil))))) (tg_tup (tgs_cons (tg_name (i := 1) (by decide)) (tgs_cons (tg_name (i := 2) (by decide)) (tgs_cons (tg_name (i := 3) (by decide)) (tgs_nil) (mon_name (i := 3))) (mon_name (i := 2))) (mon_name (i := 1)))) (mon_tup (mon_cons (mon_name (i := 1)) (mon_cons (mon_name (i := 2)) (mon_cons (mon_name (i := 3)) (mon_nil))))) (fun _ _ _ _ _ => pdts_nil) (fun _ _ _ _ _ => pd_tup (pda_cons (pd_var 1) (pda_cons (pd_var 2) (pda_cons (pd_call G_p_copied_wishes (hr.mono (by decide)) rfl T.g_p_copied_wishes T.F_p_copied_wishes.kp T.b_p_copied_wishes_1 (pda_cons (pd_var 3) (pda_nil))) (pda_nil))))))))
    sem_p_copied_rows
/-- a bound: a whole number from 1 to the most -/
def okM (top : Int) (d : D) : Bool := match d with
  | .int i => decide (1 ≤ i) && decide (i ≤ top)
  | _ => false
def sx_p_look_at_most : FX := fun ds ms P Z => match ds with
  | [.int top, d] => (∃ a, tyD d = some a) ∧ if okM top d = true then P .non ms else Z "NoNumber" ["thing"] [d] ms
  | _ => False
def sp_p_look_at_most : FS := fun ds ms P => match ds with
  | [.int top, d] => (∃ a, tyD d = some a) ∧ okM top d = true ∧ P .non ms
  | _ => False
theorem pl_p_look_at_most : ∀ ds ms P, sp_p_look_at_most ds ms P → sx_p_look_at_most ds ms P fun _ _ _ _ => False := by
  intro ds ms P h
  unfold sp_p_look_at_most at h
  split at h
  · obtain ⟨a, e, h⟩ := h
    unfold sx_p_look_at_most
    exact ⟨a, by rw [if_pos e]; exact h⟩
  · exact h.elim
theorem len_p_look_at_most : ∀ ds ms Q Z, sx_p_look_at_most ds ms Q Z → ds.length = 2 := fun ds ms Q Z h => by
  unfold sx_p_look_at_most at h
  split at h <;> first | rfl | exact h.elim
def t_p_look_at_most : DTS := dIfS (dOr (dNot (dTest (dCall 1 0 [0] sp_p_is_whole (aCons (dVar 1) (aNil)) (aNil)))) (dOr (dTest (dOp fLt (dVar 1) (dC (.int 1)))) (dTest (dOp fGt (dVar 1) (dVar 0))))) (dRaiseI "NoNumber" ["thing"] (aCons (dVar 1) (aNil))) (dNext)
theorem sem_p_look_at_most : ∀ ds ms Q Z, sx_p_look_at_most ds ms Q Z → t_p_look_at_most { nx := fun _ m => Q .non m, rt := Q, ex := fun c ns xs _ m => Z c ns xs m } (startD 2 ds) ms := by
  intro ds ms Q Z h
  unfold sx_p_look_at_most at h
  split at h
  · rename_i top d
    obtain ⟨⟨a, ea⟩, h⟩ := h
    simp only [startD]
    unfold t_p_look_at_most
    walk_at "st"
    refine ⟨⟨a, ea⟩, ?_⟩
    cases d with
    | int i =>
      rw [show isW (.int i) = true from rfl]
      walk_at "st"
      by_cases h1 : i < 1
      · refine w_iteT (decide_eq_true h1) ?_
        rw [if_neg (by show ¬ (decide (1 ≤ i) && decide (i ≤ top)) = true; rw [decide_eq_false (by omega : ¬ 1 ≤ i)]; exact Bool.false_ne_true)] at h
        walk_at "st"
        exact h
      · refine w_iteF (decide_eq_false h1) ?_
        walk_at "st"
        by_cases h2 : top < i
        · refine w_iteT (decide_eq_true h2) ?_
          rw [if_neg (by show ¬ (decide (1 ≤ i) && decide (i ≤ top)) = true; rw [decide_eq_false (by omega : ¬ i ≤ top), Bool.and_false]; exact Bool.false_ne_true)] at h
          walk_at "st"
          exact h
        · refine w_iteF (decide_eq_false h2) ?_
          rw [if_pos (by show (decide (1 ≤ i) && decide (i ≤ top)) = true; rw [decide_eq_true (by omega : 1 ≤ i), decide_eq_true (by omega : i ≤ top)]; rfl)] at h
          walk_at "st"
          exact h
    | _ =>
      rw [if_neg (by unfold okM; exact Bool.false_ne_true)] at h
      first
        | (cases ea; done)
        | (rw [show isW _ = false from rfl]
           walk_at "st"
           exact h)
  · exact h.elim
theorem okx_p_look_at_most (T : Tx P K mg) : FnX P w K mg base 2 T.f_p_look_at_most T.d_p_look_at_most ["most", "thing"] (spX K sx_p_look_at_most) := by
  have G_p_is_whole := ok_p_is_whole (P := P) (w := w) (base := base) T
  exact fnX_of (k := 1) (t := t_p_look_at_most) T.F_p_look_at_most sc_p_look_at_most len_p_look_at_most
    (fun cdv A outer s H E hr W tk => px_one (px_if (pdt_w (pdw_or (pdt_not (pdt_val (pd_call G_p_is_whole (hr.mono (by decide)) rfl T.g_p_is_whole T.F_p_is_whole.kp T.b_p_is_whole_1 (pda_cons (pd_var 1) (pda_nil))))) (pdw_or (pdt_cmp op_lt opd_lt (pd_var 1) (pd_int)) (pdw_or1 (pdt_cmp op_gt opd_gt (pd_var 1) (pd_var 0)))))) (px_one (px_raiseI rfl tk (xb_of PySem.F.excBase_ValueError) PySem.F.store_ValueError PySem.W.kxs_ValueError T.i_NoNumber T.j_NoNumber hr rfl T.gx_NoNumber (pda_cons (pd_var 1) (pda_nil)))) (px_nil)))
    sem_p_look_at_most
theorem ok_p_look_at_most (T : Tx P K mg) : FnG P w K mg base 2 T.f_p_look_at_most T.d_p_look_at_most ["most", "thing"] (spD K sp_p_look_at_most) := (okx_p_look_at_most T).plain pl_p_look_at_most
theorem lw_flat (x : LW) : flat (lwD x) = true := by
  obtain ⟨⟨j, l, fs⟩, a⟩ := x
  cases j <;> rfl
theorem lr_flat (x : LR) : flat (lrD x) = true := rfl
theorem flats_strs : ∀ xs : List Str, flats (xs.map D.str) = true := flats_all fun _ => rfl
theorem wsM_flat (q : Addr) (bs : List LW) : flatM (wsM q bs) := fun e he => by
  rcases List.mem_cons.mp he with rfl | he
  · exact flats_all lw_flat bs
  · obtain ⟨x, _, rfl⟩ := List.mem_map.mp (List.mem_reverse.mp he)
    exact flatsI _
theorem rsN_flat : ∀ xs : List LR, flatM (rsN xs)
  | [] => fun _ h => by cases h
  | x :: r => flatM_app (rsN_flat r) (wsM_flat _ _)
theorem rsM_flat (q : Addr) (xs : List LR) : flatM (rsM q xs) := fun e he => by
  rcases List.mem_cons.mp he with rfl | he
  · exact flats_all lr_flat xs
  · exact rsN_flat xs e he
theorem rsN_mem {x : LR} : ∀ {xs : List LR}, x ∈ xs → ∀ e ∈ wsM x.a x.bs, e ∈ rsN xs
  | [], h, _, _ => by cases h
  | y :: r, h, e, he => by
    rcases List.mem_cons.mp h with rfl | h
    · exact List.mem_append_right _ he
    · exact List.mem_append_left _ (rsN_mem h e he)
/-- the addresses of a row's lists -/
def adrs (x : LR) : List Addr := x.a :: x.bs.map LW.a
theorem wsM_adr (x : LR) : ((wsM x.a x.bs).map (·.1)).Perm (adrs x) := by
  show (x.a :: (wsN x.bs).map (·.1)).Perm _
  refine List.Perm.cons _ ?_
  unfold wsN
  rw [List.map_reverse, List.map_map]
  exact List.reverse_perm _
theorem rsN_adr : ∀ xs : List LR, ((rsN xs).map (·.1)).Perm (xs.flatMap adrs)
  | [] => .nil
  | x :: r => by
    show ((rsN r ++ wsM x.a x.bs).map (·.1)).Perm (adrs x ++ r.flatMap adrs)
    rw [List.map_append]
    exact ((rsN_adr r).append (wsM_adr x)).trans List.perm_append_comm
/-- a program told anew, each list of it at an address of its own -/
structure PgL (g : Pg) (t : D) (L : MS) (n p q : Addr) (xs : List LR) : Prop where
  is : t = .tup [.opq (.ref n), .opq (.ref p), .opq (.ref q)]
  rs : xs.map LR.rw = g.rs
  mn : (n, g.nm.map D.str) ∈ L
  mp : (p, g.pm.map D.str) ∈ L
  mq : (q, xs.map lrD) ∈ L
  mr : ∀ x ∈ xs, ∀ e ∈ wsM x.a x.bs, e ∈ L
  nd : (n :: p :: q :: xs.flatMap adrs).Nodup
  fl : flatM L
theorem pgl_mk {g : Pg} {n p q : Addr} {xs : List LR} {ms : MS} (e : xs.map LR.rw = g.rs) (f : Frsh (rsM q xs) ((p, g.pm.map D.str) :: (n, g.nm.map D.str) :: ms)) (hp : ∀ e ∈ (n, g.nm.map D.str) :: ms, e.1 ≠ p) (hn : ∀ e ∈ ms, e.1 ≠ n) :
    PgL g (.tup [.opq (.ref n), .opq (.ref p), .opq (.ref q)]) (rsM q xs ++ [(p, g.pm.map D.str), (n, g.nm.map D.str)]) n p q xs ∧ Frsh (rsM q xs ++ [(p, g.pm.map D.str), (n, g.nm.map D.str)]) ms := by
  have ff : Frsh (rsM q xs ++ [(p, g.pm.map D.str), (n, g.nm.map D.str)]) ms := frsh_app (M := [(p, g.pm.map D.str), (n, g.nm.map D.str)]) f ⟨hp, hn, trivial⟩
  refine ⟨⟨rfl, e, List.mem_append_right _ (by simp), List.mem_append_right _ List.mem_cons_self, List.mem_append_left _ List.mem_cons_self, fun x hx e he => List.mem_append_left _ (List.mem_cons_of_mem _ (rsN_mem hx e he)), ?_, ?_⟩, ff⟩
  · refine List.Perm.nodup_iff ?_ |>.mp (frsh_nd ff)
    rw [List.map_append]
    show (q :: (rsN xs).map (·.1) ++ [p, n]).Perm _
    refine List.Perm.trans (l₂ := [n, p] ++ (q :: (rsN xs).map (·.1))) (List.perm_append_comm.trans ((List.Perm.swap n p []).append_right _)) ?_
    exact .cons _ (.cons _ (.cons _ (rsN_adr xs)))
  · refine flatM_app (rsM_flat q xs) fun e he => ?_
    simp only [List.mem_cons, List.not_mem_nil, or_false] at he
    rcases he with rfl | rfl <;> exact flats_strs _
/-- two programs side by side -/
def shR (k : Nat) (r : Rw) : Rw := ⟨r.s + (k : Int), r.t + (k : Int), r.ws⟩
def besG (g1 g2 : Pg) : Pg := ⟨g1.nm, g1.pm ++ g2.pm, g1.rs ++ g2.rs.map (shR g1.pm.length)⟩
def unl (g1 g2 : Pg) : Bool := (!((g1.nm.length : Int) == (g2.nm.length : Int))) || g2.pm.any fun x => decide (x ∈ g1.pm)
def tooM (g1 g2 : Pg) (a b : D) : Bool := match a, b with
  | .int i, .int j => decide (i < (g1.pm.length : Int) + (g2.pm.length : Int)) || decide (j < (g1.rs.length : Int) + (g2.rs.length : Int))
  | _, _ => false
def sx_p_beside : FX := fun ds ms P Z => match ds with
  | [d1, d2, a, b] => ∃ (g1 g2 : Pg) (B : Nat), d1 = pgD g1 ∧ d2 = pgD g2 ∧ PgOk B g1 ∧ PgOk B g2 ∧ (∃ t, tyD a = some t) ∧ (∃ t, tyD b = some t) ∧
      if okM 6 a = true then (if okM 10 b = true then (if unl g1 g2 = true then Z "Unlike" [] [] ms else if tooM g1 g2 a b = true then Z "TooMany" [] [] ms else
        ∀ t L n p q xs, PgL (besG g1 g2) t L n p q xs → Frsh L ms → P t (L ++ ms)) else Z "NoNumber" ["thing"] [b] ms) else Z "NoNumber" ["thing"] [a] ms
  | _ => False
def sp_p_beside : FS := fun ds ms P => False
theorem pl_p_beside : ∀ ds ms P, sp_p_beside ds ms P → sx_p_beside ds ms P fun _ _ _ _ => False := fun _ _ _ h => h.elim
theorem len_p_beside : ∀ ds ms Q Z, sx_p_beside ds ms Q Z → ds.length = 4 := fun ds ms Q Z h => by
  unfold sx_p_beside at h
  split at h <;> first | rfl | exact h.elim
def t_p_beside_c2 : DTS := dSeq (dAsg (dLc (iSeq (dOp fIx (dVar 1) (dC (.int 2)))) (sTup 3 (sCons (sName 6) (sCons (sName 7) (sCons (sName 8) (sNil))))) (dYes) (dTup (aCons (dOp fAdd (dVar 6) (dVar 4)) (aCons (dOp fAdd (dVar 7) (dVar 4)) (aCons (dVar 8) (aNil))))) [6, 7, 8]) (sName 5)) (dRet (dTup (aCons (dCB cListM (aCons (dOp fIx (dVar 0) (dC (.int 0))) (aNil))) (aCons (dOp fAddL (dOp fIx (dVar 0) (dC (.int 1))) (dOp fIx (dVar 1) (dC (.int 1)))) (aCons (dCall 1 0 [0] sp_p_copied_rows (aCons (dOp fAdd (dOp fIx (dVar 0) (dC (.int 2))) (dVar 5)) (aNil)) (aNil)) (aNil))))))
def t_p_beside_c1 : DTS := dSeq (dAsg (dCB cLen (aCons (dOp fIx (dVar 0) (dC (.int 1))) (aNil))) (sName 4)) (dSeq (dIfS (dOr (dTest (dOp fGt (dOp fAdd (dVar 4) (dCB cLen (aCons (dOp fIx (dVar 1) (dC (.int 1))) (aNil)))) (dVar 2))) (dTest (dOp fGt (dOp fAdd (dCB cLen (aCons (dOp fIx (dVar 0) (dC (.int 2))) (aNil))) (dCB cLen (aCons (dOp fIx (dVar 1) (dC (.int 2))) (aNil)))) (dVar 3)))) (dRaise "TooMany") (dNext)) (t_p_beside_c2))
def t_p_beside : DTS := dSeq (dDrop (dCall 1 0 [0] sp_p_look_at (aCons (dVar 0) (aNil)) (aNil))) (dSeq (dDrop (dCall 1 0 [0] sp_p_look_at (aCons (dVar 1) (aNil)) (aNil))) (dSeq (dExprZ (fun Z => dCallZ 2 0 [0, 1] sx_p_look_at_most (aCons (dC (.int 6)) (aCons (dVar 2) (aNil))) (aNil) Z)) (dSeq (dExprZ (fun Z => dCallZ 2 0 [0, 1] sx_p_look_at_most (aCons (dC (.int 10)) (aCons (dVar 3) (aNil))) (aNil) Z)) (dSeq (dIfS (dOr (dTest (dOp fNe (dCB cLen (aCons (dOp fIx (dVar 0) (dC (.int 0))) (aNil))) (dCB cLen (aCons (dOp fIx (dVar 1) (dC (.int 0))) (aNil))))) (dTest (dCB cAny (aCons (dLc (iSeq (dOp fIx (dVar 1) (dC (.int 1)))) (sName 9) (dYes) (dOp fIn (dVar 9) (dOp fIx (dVar 0) (dC (.int 1)))) [9]) (aNil))))) (dRaise "Unlike") (dNext)) (t_p_beside_c1)))))
theorem nm_inV {x : Str} {ys : List Str} {ms : MS} {P : D → MS → Prop} (hx : x.cps.all (· < 0x110000) = true) (hy : ∀ y ∈ ys, y.cps.all (· < 0x110000) = true) (q : P (.bl (decide (x ∈ ys))) ms) : InOk (.str x) (ys.map D.str) false ms P := by
  have py : ∀ ys : List Str, (∀ y ∈ ys, y.cps.all (· < 0x110000) = true) → toPys (ys.map D.str) = some (ys.map PyData.str) ∧ PyData.canLayAll0 (ys.map PyData.str) = true ∧
      ((ys.map PyData.str).any fun z => PyData.eqv z (.str x)) = decide (x ∈ ys) := by
    intro ys
    induction ys with
    | nil => intro _; exact ⟨rfl, rfl, rfl⟩
    | cons y r ih =>
      intro h
      obtain ⟨e1, e2, e3⟩ := ih fun z hz => h z (List.mem_cons_of_mem _ hz)
      refine ⟨by rw [List.map_cons]; unfold toPys; rw [e1]; rfl, Bool.and_eq_true_iff.mpr ⟨h y List.mem_cons_self, e2⟩, ?_⟩
      rw [List.map_cons, List.any_cons, e3, Bool.eq_iff_iff, Bool.or_eq_true_iff, decide_eq_true_iff, decide_eq_true_iff, List.mem_cons]
      have e4 : PyData.eqv (.str y) (.str x) = (y == x) := rfl
      rw [e4, beq_iff_eq]
      exact ⟨fun z => z.imp Eq.symm id, fun z => z.imp Eq.symm id⟩
  obtain ⟨e1, e2, e3⟩ := py ys hy
  exact ⟨.str x, ys.map PyData.str, rfl, e1, hx, Nat.zero_le _, e2, by rw [e3, Bool.false_xor]; exact q⟩
theorem sem_p_beside : ∀ ds ms Q Z, sx_p_beside ds ms Q Z → t_p_beside { nx := fun _ m => Q .non m, rt := Q, ex := fun c ns xs _ m => Z c ns xs m } (startD 10 ds) ms := by
  intro ds ms Q Z h
  unfold sx_p_beside at h
  split at h
  · rename_i d1 d2 a b
    obtain ⟨g1, g2, B, rfl, rfl, ok1, ok2, ta, tb, h⟩ := h
    have rl1 := ok1.rl
    have rl2 := ok2.rl
    have pl1 := ok1.pm.l2
    have pl2 := ok2.pm.l2
    simp only [startD]
    unfold t_p_beside
    walk_at "st"
    refine ⟨g1, B, rfl, ok1, ?_⟩
    walk_at "st"
    refine ⟨g2, B, rfl, ok2, ?_⟩
    walk_at "st"
    refine ⟨ta, ?_⟩
    cases ha : okM 6 a with
    | false =>
      rw [ha, if_neg (by decide)] at h
      rw [if_neg (by decide)]
      walk_at "st"
      exact h
    | true =>
    rw [ha, if_pos rfl] at h
    rw [if_pos rfl]
    walk_at "st"
    refine ⟨tb, ?_⟩
    cases hb : okM 10 b with
    | false =>
      rw [hb, if_neg (by decide)] at h
      rw [if_neg (by decide)]
      walk_at "st"
      exact h
    | true =>
    rw [hb, if_pos rfl] at h
    rw [if_pos rfl]
    obtain ⟨i, rfl⟩ : ∃ i, a = .int i := by cases a <;> first | exact ⟨_, rfl⟩ | cases ha
    obtain ⟨j, rfl⟩ : ∃ i, b = .int i := by cases b <;> first | exact ⟨_, rfl⟩ | cases hb
    have mid : unl g1 g2 = false → StG t_p_beside_c1 { nx := fun _ m => Q .non m, rt := Q, ex := fun c ns xs _ m => Z c ns xs m } [some (pgD g1), some (pgD g2), some (.int i), some (.int j), none, none, none, none, none, none] ms := fun hu => by
      rw [hu, if_neg (by decide)] at h
      unfold t_p_beside_c1 pgD
      walk_at "st"
      rw [List.length_map, List.length_map]
      have fin : tooM g1 g2 (.int i) (.int j) = false → StG t_p_beside_c2 { nx := fun _ m => Q .non m, rt := Q, ex := fun c ns xs _ m => Z c ns xs m } [some (pgD g1), some (pgD g2), some (.int i), some (.int j), some (.int (g1.pm.length : Int)), none, none, none, none, none] ms := fun hm => by
        rw [hm, if_neg (by decide)] at h
        unfold t_p_beside_c2 pgD
        walk_at "st"
        simp only [wipeD, List.set]
        refine comp_e rwD (fun r => rwD (shR g1.pm.length r)) g2.rs [] _ (by rw [List.length_nil]; omega) (fun r hr P0 z => ?_) ?_
        · unfold rwD at z ⊢
          walk_at "st"
          exact z
        rw [List.nil_append]
        walk_at "st"
        intro n hn
        walk_at "st"
        refine OpG.out (w_addL seen_l seen_l ?_)
        refine ⟨size_ok (by rw [List.length_map, List.length_map]; omega), fun p hp => ?_⟩
        rw [← List.map_append]
        walk_at "st"
        rw [List.length_map, List.length_map]
        refine ⟨size_ok (by omega), ?_⟩
        rw [show (g2.rs.map fun r => rwD (shR g1.pm.length r)) = (g2.rs.map (shR g1.pm.length)).map rwD by rw [List.map_map]; rfl, ← List.map_append]
        walk_at "st"
        refine ⟨_, rfl, by rw [List.length_append, List.length_map]; omega, fun r hr => ?_, fun q xs e f => ?_⟩
        · rcases List.mem_append.mp hr with hr | hr
          · have := (ok1.ro r hr).wl; omega
          · obtain ⟨s, hs, rfl⟩ := List.mem_map.mp hr
            have := (ok2.ro s hs).wl
            show s.ws.length ≤ 1000
            omega
        walk_at "st"
        have := pgl_mk (g := besG g1 g2) e f hp hn
        have := h _ _ n p q xs this.1 this.2
        rw [List.append_assoc] at this
        exact this
      by_cases h1 : i < (g1.pm.length : Int) + (g2.pm.length : Int)
      · refine w_iteT (decide_eq_true h1) ?_
        rw [if_pos (by show (decide _ || _) = true; rw [decide_eq_true h1]; rfl)] at h
        walk_at "st"
        exact h
      · refine w_iteF (decide_eq_false h1) ?_
        walk_at "st"
        rw [List.length_map, List.length_map]
        by_cases h2 : j < (g1.rs.length : Int) + (g2.rs.length : Int)
        · refine w_iteT (decide_eq_true h2) ?_
          rw [if_pos (by show (_ || decide _) = true; rw [decide_eq_true h2, Bool.or_true])] at h
          walk_at "st"
          exact h
        · refine w_iteF (decide_eq_false h2) ?_
          walk_at "st"
          exact fin (by show (decide _ || decide _) = false; rw [decide_eq_false h1, decide_eq_false h2]; rfl)
    unfold pgD
    walk_at "st"
    rw [List.length_map, List.length_map]
    cases hn : (!((g1.nm.length : Int) == (g2.nm.length : Int))) with
    | true =>
      rw [if_pos (by unfold unl; rw [hn]; rfl)] at h
      walk_at "st"
      exact h
    | false =>
      walk_at "st"
      simp only [wipeD, List.set]
      refine comp_e D.str (fun x => D.bl (decide (x ∈ g1.pm))) g2.pm [] _ (by rw [List.length_nil]; omega) (fun x hx P0 z => ?_) ?_
      · walk_at "st"
        exact nm_inV (nm_ok (ok2.pm.ok x hx)) (fun y hy => nm_ok (ok1.pm.ok y hy)) z
      rw [List.nil_append]
      walk_at "st"
      refine w_any (bls_map _ g2.pm) ?_
      walk_at "st"
      have eu : (g2.pm.map fun x => decide (x ∈ g1.pm)).any id = unl g1 g2 := by
        unfold unl
        rw [hn, Bool.false_or, List.any_map]; rfl
      rw [eu]
      cases hu : unl g1 g2 with
      | true =>
        rw [if_pos hu] at h
        walk_at "st"
        exact h
      | false =>
        walk_at "st"
        exact mid hu
  · exact h.elim
theorem okx_p_beside (T : Tx P K mg) : FnX P w K mg base 9 T.f_p_beside T.d_p_beside ["one", "other", "places", "rows"] (spX K sx_p_beside) := by
  have G_p_look_at := ok_p_look_at (P := P) (w := w) (base := base) T
  have G_p_look_at_most := ok_p_look_at_most (P := P) (w := w) (base := base) T
  have G_p_copied_rows := ok_p_copied_rows (P := P) (w := w) (base := base) T
  have X_p_look_at_most := okx_p_look_at_most (P := P) (w := w) (base := base) T
  exact fnXA_of (k := 8) (t := t_p_beside) T.F_p_beside sc_p_beside len_p_beside
    (fun cdv A outer s H E hr W tk => px_cons (px_of (pds_expr (pd_call G_p_look_at (hr.mono (by decide)) rfl T.g_p_look_at T.F_p_look_at.kp T.b_p_look_at_1 (pda_cons (pd_var 0) (pda_nil))))) (px_cons (px_of (pds_expr (pd_call G_p_look_at (hr.mono (by decide)) rfl T.g_p_look_at T.F_p_look_at.kp T.b_p_look_at_1 (pda_cons (pd_var 1) (pda_nil))))) (px_cons (px_exprZ (fun Z => pdz_call tk X_p_look_at_most (hr.mono (by decide)) rfl T.g_p_look_at_most T.F_p_look_at_most.kp T.b_p_look_at_most_2 (pda_cons (pd_glob (v := .int (6)) rfl T.c_MOST_PLACES ⟨_, rfl⟩ (fun _ => .int _)) (pda_cons (pd_var 2) (pda_nil))))) (px_cons (px_exprZ (fun Z => pdz_call tk X_p_look_at_most (hr.mono (by decide)) rfl T.g_p_look_at_most T.F_p_look_at_most.kp T.b_p_look_at_most_2 (pda_cons (pd_glob (v := .int (10)) rfl T.c_MOST_ROWS ⟨_, rfl⟩ (fun _ => .int _)) (pda_cons (pd_var 3) (pda_nil))))) (px_cons (px_if (pdt_w (pdw_or (pdt_cmp (op_neF hr.r.units) opd_ne (pd_callB call_len cal_len rfl T.n_len (by decide +kernel) (pda_cons (pd_ix ix_seq opd_ix (pd_var 0) (pd_int)) (pda_nil))) (pd_callB call_len cal_len rfl T.n_len (by decide +kernel) (pda_cons (pd_ix ix_seq opd_ix (pd_var 1) (pd_int)) (pda_nil)))) (pdw_or1 (pdt_val (pd_callB (cr_any rfl) cal_any rfl T.n_any (by decide +kernel) (pda_cons (pd_lc (own := [("name", 9)]) rfl sc_p_beside.nd (pdi_list (pd_ix ix_seq opd_ix (pd_var 1) (pd_int))) (blkOk_by (own := [("name", 9)]) (by kernel_rfl)) (fun _ _ _ _ _ => pg_name (i := 9) sc_p_beside.nd rfl (by first | exact .inl rfl | exact .inr rfl)) (tg_name (i := 9) (by decide)) (mon_name (i := 9)) (fun _ _ _ _ _ => pdts_nil) (fun _ _ _ _ _ => pd_cmp (op_inF hr.r.units) opd_in (pd_var 9) (pd_ix ix_seq opd_ix (pd_var 0) (pd_int)) (by rfl))) (pda_nil))))))) (px_one (px_raiseF rfl tk PySem.F.excBase_ValueError T.q_Unlike T.gx_Unlike rfl)) (px_nil)) (px_cons (px_of (pds_set (i := 4) sc_p_beside.nd rfl (.inr rfl) (pd_callB call_len cal_len rfl T.n_len (by decide +kernel) (pda_cons (pd_ix ix_seq opd_ix (pd_var 0) (pd_int)) (pda_nil))))) (px_cons (px_if (pdt_w (pdw_or (pdt_cmp op_gt opd_gt (pd_op op_addD opd_add (pd_var 4) (pd_callB call_len cal_len rfl T.n_len (by decide +kernel) (pda_cons (pd_ix ix_seq opd_ix (pd_var 1) (pd_int)) (pda_nil)))) (pd_var 2)) (pdw_or1 (pdt_cmp op_gt opd_gt (pd_op op_addD opd_add (pd_callB call_len cal_len rfl T.n_len (by decide +kernel) (pda_cons (pd_ix ix_seq opd_ix (pd_var 0) (pd_int)) (pda_nil))) (pd_callB call_len cal_len rfl T.n_len (by decide +kernel) (pda_cons (pd_ix ix_seq opd_ix (pd_var 1) (pd_int)) (pda_nil)))) (pd_var 3))))) (px_one (px_raiseF rfl tk PySem.F.excBase_OverflowError T.q_TooMany T.gx_TooMany rfl)) (px_nil)) (px_cons (px_of (pds_setLc (i := 5) (own := [("start", 6), ("to", 7), ("wishes", 8)]) rfl sc_p_beside.nd rfl rfl (sw_true rfl rfl rfl (by decide +kernel)) (pdi_list (pd_ix ix_seq opd_ix (pd_var 1) (pd_int))) (blkOk_by (own := [("start", 6), ("to", 7), ("wishes", 8)]) (by kernel_rfl)) (fun _ _ _ _ _ => pg_tup rfl (pgs_cons (pg_name (i := 6) sc_p_beside.nd rfl (by first | exact .inl rfl | exact .inr rfl)) (pgs_cons (pg_name (i := 7) sc_p_beside.nd rfl (by first | exact .inl rfl | exact .inr rfl)) (pgs_cons (pg_name (i := 8) sc_p_beside.nd rfl (by first | exact .inl rfl | exact .inr rfl)) (pgs_nil))))) (tg_tup (tgs_cons (tg_name (i := 6) (by decide)) (tgs_cons (tg_name (i := 7) (by decide)) (tgs_cons (tg_name (i := 8) (by decide)) (tgs_nil) (mon_name (i := 8))) (mon_name (i := 7))) (mon_name (i := 6)))) (mon_tup (mon_cons (mon_name (i := 6)) (mon_cons (mon_name (i := 7)) (mon_cons (mon_name (i := 8)) (mon_nil))))) (fun _ _ _ _ _ => pdts_nil) (fun _ _ _ _ _ => pd_tup (pda_cons (pd_op op_addD opd_add (pd_var 6) (pd_var 4)) (pda_cons (pd_op op_addD opd_add (pd_var 7) (pd_var 4)) (pda_cons (pd_var 8) (pda_nil))))))) (px_one (px_of (pds_ret (pd_tup (pda_cons (pd_callTy call_list_of cal_listM rfl T.n_list (by decide +kernel) (pda_cons (pd_ix ix_seq opd_ix (pd_var 0) (pd_int)) (pda_nil))) (pda_cons (pd_op op_addD opd_addL (pd_ix ix_seq opd_ix (pd_var 0) (pd_int)) (pd_ix ix_seq opd_ix (pd_var 1) (pd_int))) (pda_cons (pd_call G_p_copied_rows (hr.mono (by decide)) rfl T.g_p_copied_rows T.F_p_copied_rows.kp T.b_p_copied_rows_1 (pda_cons (pd_op op_addD opd_add (pd_ix ix_seq opd_ix (pd_var 0) (pd_int)) (pd_var 5)) (pda_nil))) (pda_nil))))))))))))))))
    sem_p_beside
theorem ok_p_beside (T : Tx P K mg) : FnG P w K mg base 9 T.f_p_beside T.d_p_beside ["one", "other", "places", "rows"] (spD K sp_p_beside) := (okx_p_beside T).plain pl_p_beside
def PO (a b : Int) : Prop := 0 ≤ a ∧ 0 ≤ b ∧ b < 2147483647
def PoolAt (ms : MS) (p : Addr) : Prop := ∃ a b, PO a b ∧ look ms p = some [.int a, .int b]
def pu (ms : MS) (p : Addr) (a b : Int) : MS := put ms p [.int a, .int b]
theorem put_put : ∀ (ms : MS) (p : Addr) (x y : List D), put (put ms p x) p y = put ms p y
  | [], _, _, _ => rfl
  | (q, zs) :: r, p, x, y => by
    by_cases h : q = p
    · simp only [put, h, if_true]
    · simp only [put, h, if_false, put_put r p x y]
theorem pu_pu (ms : MS) (p : Addr) (a b c d : Int) : pu (pu ms p a b) p c d = pu ms p c d := put_put ms p _ _
theorem PoolAt.pu {ms : MS} {p : Addr} (h : PoolAt ms p) {a b : Int} (o : PO a b) : PoolAt (pu ms p a b) p := by
  obtain ⟨x, y, _, e⟩ := h
  exact ⟨a, b, o, look_put_same e⟩
/-- the pool has been drawn from, all else is as it was -/
def Chg (ms : MS) (p : Addr) (ms' : MS) : Prop := ∃ a b, PO a b ∧ ms' = pu ms p a b
theorem put_self : ∀ {ms : MS} {p : Addr} {xs : List D}, look ms p = some xs → put ms p xs = ms
  | [], _, _, h => by cases h
  | (q, zs) :: r, p, xs, h => by
    unfold look at h
    by_cases e : q = p
    · rw [if_pos e] at h
      cases h
      simp only [put, e, if_true]
    · rw [if_neg e] at h
      simp only [put, e, if_false, put_self h]
theorem PoolAt.refl {ms : MS} {p : Addr} (h : PoolAt ms p) : Chg ms p ms := by
  obtain ⟨a, b, o, e⟩ := h
  exact ⟨a, b, o, (put_self e).symm⟩
theorem Chg.trans {ms m1 m2 : MS} {p : Addr} (h : Chg ms p m1) (h2 : Chg m1 p m2) : Chg ms p m2 := by
  obtain ⟨a, b, o, rfl⟩ := h
  obtain ⟨c, d, o2, rfl⟩ := h2
  exact ⟨c, d, o2, pu_pu ms p a b c d⟩
theorem PoolAt.chg {ms m1 : MS} {p : Addr} (h : PoolAt ms p) (c : Chg ms p m1) : PoolAt m1 p := by
  obtain ⟨a, b, o, rfl⟩ := c
  exact h.pu o
theorem PoolAt.new {ms : MS} {p : Addr} {a b : Int} (o : PO a b) : PoolAt ((p, [.int a, .int b]) :: ms) p := ⟨a, b, o, by unfold look; rw [if_pos rfl]⟩
def sp_L_pool : FS := fun ds ms P => match ds with
  | [.fro xs, .int k] => ∃ ns : List Int, xs = ns.map D.int ∧ 0 ≤ k ∧ k < 100 ∧ ∀ p, (∀ q ∈ ms, q.1 ≠ p) → ∀ a b, PO a b → P (.opq (.ref p)) ((p, [.int a, .int b]) :: ms)
  | _ => False
theorem len_L_pool : ∀ ds ms Q, sp_L_pool ds ms Q → ds.length = 2 := fun ds ms Q h => by
  unfold sp_L_pool at h
  split at h <;> first | rfl | exact h.elim
def t_L_pool_c1 : DTS := dSeq (dAsg (dOp fMod (dOp fMul (dOp fAdd (dOp fAdd (dOp fMod (dVar 2) (dC (.int 2147483629))) (dOp fMul (dOp fMul (dC (.int 6151)) (dVar 1)) (dVar 1))) (dC (.int 29))) (dC (.int 48271))) (dC (.int 2147483647))) (sName 3)) (dSeq (dIfS (dTest (dOp fLt (dVar 2) (dOp fPow (dC (.int 10)) (dC (.int 18))))) (dAsg (dC (.int 0)) (sName 2)) (dNext)) (dRet (dLstM (aCons (dVar 2) (aCons (dOp fAdd (dOp fMod (dOp fMul (dVar 3) (dVar 3)) (dC (.int 2147483587))) (dC (.int 3))) (aNil))))))
def t_L_pool : DTS := dSeq (dAsg (dC (.int 0)) (sName 2)) (dSeq (dIfS (dTest (dOp fLt (dVar 1) (dCB cLen (aCons (dVar 0) (aNil))))) (dAsg (dOp fIx (dVar 0) (dVar 1)) (sName 2)) (dNext)) (t_L_pool_c1))
theorem seed_mul {c k : Int} (k0 : 0 ≤ k) (k1 : k < 100) : 0 ≤ c.fmod 2147483629 + 6151 * k * k + 29 ∧ c.fmod 2147483629 + 6151 * k * k + 29 < 2 ^ 33 := by
  have h1 := Int.fmod_nonneg_of_pos c (show (0 : Int) < 2147483629 by decide)
  have h2 := Int.fmod_lt_of_pos c (show (0 : Int) < 2147483629 by decide)
  have h3 : 0 ≤ 6151 * k * k := Int.mul_nonneg (by omega) k0
  have h4 : 6151 * k * k ≤ 6151 * 100 * 100 := Int.mul_le_mul (by omega) (by omega) k0 (by decide)
  omega
theorem pool_last {z : Int} {ms : MS} {Q : D → MS → Prop} {c : Int} (hc : 0 ≤ c) (h : ∀ p, (∀ q ∈ ms, q.1 ≠ p) → ∀ a b, PO a b → Q (.opq (.ref p)) ((p, [.int a, .int b]) :: ms)) :
    ∀ p, (∀ q ∈ ms, q.1 ≠ p) → Q (.opq (.ref p)) ((p, [.int c, .int (z.fmod 2147483587 + 3)]) :: ms) := fun p hp => by
  have f0 := Int.fmod_nonneg_of_pos z (show (0 : Int) < 2147483587 by decide)
  have f1 := Int.fmod_lt_of_pos z (show (0 : Int) < 2147483587 by decide)
  exact h p hp _ _ ⟨hc, by omega, by omega⟩
theorem pool_rest {c k : Int} {x0 : Option D} {ms : MS} {Q : D → MS → Prop} (k0 : 0 ≤ k) (k1 : k < 100) (h : ∀ p, (∀ q ∈ ms, q.1 ≠ p) → ∀ a b, PO a b → Q (.opq (.ref p)) ((p, [.int a, .int b]) :: ms)) :
    StG t_L_pool_c1 { nx := fun _ m => Q .non m, rt := Q } [x0, some (.int k), some (.int c), none] ms := by
  obtain ⟨b0, b1⟩ := seed_mul (c := c) k0 k1
  unfold t_L_pool_c1
  walk_at "st"
  refine ⟨by decide, ?_⟩
  walk_at "st"
  refine ⟨.inr (.inr ⟨by omega, by omega⟩), ?_⟩
  walk_at "st"
  refine ⟨.inr (.inr ⟨by omega, by omega⟩), ?_⟩
  walk_at "st"
  refine ⟨.inr (.inr ⟨by omega, by omega⟩), ?_⟩
  walk_at "st"
  refine ⟨by decide, ?_⟩
  generalize ((c.fmod 2147483629 + 6151 * k * k + 29) * 48271) = z
  have f0 := Int.fmod_nonneg_of_pos z (show (0 : Int) < 2147483647 by decide)
  have f1 := Int.fmod_lt_of_pos z (show (0 : Int) < 2147483647 by decide)
  generalize z.fmod 2147483647 = y at f0 f1
  walk_at "st"
  by_cases hc : c < 1000000000000000000
  · refine w_iteT (decide_eq_true hc) ?_
    walk_at "st"
    refine ⟨.inr (.inr ⟨by omega, by omega⟩), ?_⟩
    walk_at "st"
    refine ⟨by decide, ?_⟩
    walk_at "st"
    exact pool_last (by decide) h
  · refine w_iteF (decide_eq_false hc) ?_
    walk_at "st"
    refine ⟨.inr (.inr ⟨by omega, by omega⟩), ?_⟩
    walk_at "st"
    refine ⟨by decide, ?_⟩
    walk_at "st"
    exact pool_last (by omega) h
theorem sem_L_pool : ∀ ds ms Q, sp_L_pool ds ms Q → t_L_pool { nx := fun _ m => Q .non m, rt := Q } (startD 4 ds) ms := by
  intro ds ms Q h
  unfold sp_L_pool at h
  split at h
  · rename_i xs k
    obtain ⟨ns, rfl, k0, k1, h⟩ := h
    simp only [startD]
    unfold t_L_pool
    walk_at "st"
    by_cases hk : k < ((ns.map D.int).length : Int)
    · refine w_iteT (decide_eq_true hk) ?_
      have hl : k.toNat < ns.length := by rw [List.length_map] at hk; omega
      obtain ⟨c, ha⟩ : ∃ c : Int, atI (ns.map D.int) k = some (.int c) := by
        obtain ⟨j, rfl⟩ : ∃ j : Nat, k = (j : Int) := ⟨k.toNat, by omega⟩
        have hj : j < ns.length := by omega
        exact ⟨ns[j], atI_nat (by rw [List.getElem?_map, List.getElem?_eq_getElem hj]; rfl)⟩
      walk_at "st"
      refine w_ix_f ha ?_
      walk_at "st"
      exact pool_rest k0 k1 h
    · refine w_iteF (decide_eq_false hk) ?_
      walk_at "st"
      exact pool_rest k0 k1 h
  · exact h.elim
theorem ok_L_pool (T : Tx P K mg) : FnG P w K mg base 1 T.f_L_pool T.d_L_pool ["_law_script", "_law_k"] (spD K sp_L_pool) := by
  exact fnG_of (k := 0) (t := t_L_pool) T.F_L_pool sc_L_pool len_L_pool
    (fun cdv A outer s H hr => pds_cons (pds_set (i := 2) sc_L_pool.nd rfl (.inl rfl) (pd_int)) (pds_cons (pds_if (pdt_cmp op_lt opd_lt (pd_var 1) (pd_callB call_len cal_len rfl T.n_len (by decide +kernel) (pda_cons (pd_var 0) (pda_nil)))) (pds_one (pds_set (i := 2) sc_L_pool.nd rfl (.inl rfl) (pd_ix ix_seq opd_ix (pd_var 0) (pd_var 1)))) (pds_nil)) (pds_cons (pds_set (i := 3) sc_L_pool.nd rfl (.inl rfl) (pd_op op_modN opd_mod (pd_op op_mulA opd_mul (pd_op op_addD opd_add (pd_op op_addD opd_add (pd_op op_modN opd_mod (pd_var 2) (pd_int)) (pd_op op_mulA opd_mul (pd_op op_mulA opd_mul (pd_int) (pd_var 1)) (pd_var 1))) (pd_int)) (pd_int)) (pd_int))) (pds_cons (pds_if (pdt_cmp op_lt opd_lt (pd_var 2) (pd_op op_pow opd_pow (pd_int) (pd_int))) (pds_one (pds_set (i := 2) sc_L_pool.nd rfl (.inl rfl) (pd_int))) (pds_nil)) (pds_one (pds_ret (pd_lstM (pda_cons (pd_var 2) (pda_cons (pd_op op_addD opd_add (pd_op op_modN opd_mod (pd_op op_mulA opd_mul (pd_var 3) (pd_var 3)) (pd_int)) (pd_int)) (pda_nil))))))))))
    sem_L_pool
def sp_L_take : FS := fun ds ms P => match ds with
  | [.opq (.ref p), .int m] => PoolAt ms p ∧ 0 < m ∧ m ≤ 10000000000000 ∧ ∀ r, 0 ≤ r → r < m → ∀ ms', Chg ms p ms' → P (.int r) ms'
  | _ => False
theorem len_L_take : ∀ ds ms Q, sp_L_take ds ms Q → ds.length = 2 := fun ds ms Q h => by
  unfold sp_L_take at h
  split at h <;> first | rfl | exact h.elim
def t_L_take : DTS := dSeq (dIfS (dTest (dOp fGt (dOp fIx (dVar 0) (dC (.int 0))) (dC (.int 0)))) (dSeq (dAsg (dOp fMod (dOp fIx (dVar 0) (dC (.int 0))) (dVar 1)) (sName 2)) (dSeq (dSetIx (dVar 0) (dC (.int 0)) (dOp fDiv (dOp fIx (dVar 0) (dC (.int 0))) (dVar 1))) (dRet (dVar 2)))) (dNext)) (dSeq (dSetIx (dVar 0) (dC (.int 1)) (dOp fMod (dOp fAdd (dOp fMul (dOp fIx (dVar 0) (dC (.int 1))) (dC (.int 48271))) (dC (.int 12347))) (dC (.int 2147483647)))) (dRet (dOp fMod (dOp fDiv (dOp fMod (dOp fMul (dOp fIx (dVar 0) (dC (.int 1))) (dOp fIx (dVar 0) (dC (.int 1)))) (dC (.int 2147483629))) (dC (.int 64))) (dVar 1))))
theorem sem_L_take : ∀ ds ms Q, sp_L_take ds ms Q → t_L_take { nx := fun _ m => Q .non m, rt := Q } (startD 3 ds) ms := by
  intro ds ms Q h
  unfold sp_L_take at h
  split at h
  · rename_i p m
    obtain ⟨⟨a, b, ⟨a0, b0, b1⟩, e⟩, m0, m1, h⟩ := h
    unfold t_L_take
    walk_at "dl"
    simp only [fIx, asL, e, atI_0, atI_1]
    have hm : CDivA a m := ⟨by omega, Nat.lt_of_lt_of_le (Bd.log (n := 44) (x := m) (by unfold Bd; omega) (by decide)) (by decide)⟩
    have i0 : ixN ([D.int a, D.int b].length) 0 = some 0 := rfl
    have i1 : ixN ([D.int a, D.int b].length) 1 = some 1 := rfl
    have s0 : ∀ x : D, [D.int a, D.int b].set 0 x = [x, D.int b] := fun _ => rfl
    have s1 : ∀ x : D, [D.int a, D.int b].set 1 x = [D.int a, x] := fun _ => rfl
    by_cases ha : 0 < a
    · rw [if_pos ha]
      simp only [i0, s0]
      refine ⟨by omega, hm, h _ (Int.fmod_nonneg_of_pos _ m0) (Int.fmod_lt_of_pos _ m0) _ ⟨_, _, ⟨?_, b0, b1⟩, rfl⟩⟩
      rw [Int.fdiv_eq_ediv_of_nonneg _ (by omega)]
      exact Int.ediv_nonneg a0 (by omega)
    · rw [if_neg ha]
      simp only [i1, s1, look_put_same e, atI_1]
      have f0 := Int.fmod_nonneg_of_pos (b * 48271 + 12347) (show (0 : Int) < 2147483647 by decide)
      have f1 := Int.fmod_lt_of_pos (b * 48271 + 12347) (show (0 : Int) < 2147483647 by decide)
      refine ⟨.inr (.inr ⟨by decide, by decide⟩), by decide, .inr (.inl ⟨by omega, by omega⟩), by decide, ⟨by decide, by decide⟩, by omega, h _ (Int.fmod_nonneg_of_pos _ m0) (Int.fmod_lt_of_pos _ m0) _ ⟨_, _, ⟨a0, f0, f1⟩, rfl⟩⟩
  · exact h.elim
theorem ok_L_take (T : Tx P K mg) : FnG P w K mg base 1 T.f_L_take T.d_L_take ["_law_pool_here", "_law_many"] (spD K sp_L_take) := by
  exact fnG_of (k := 0) (t := t_L_take) T.F_L_take sc_L_take len_L_take
    (fun cdv A outer s H hr => pds_cons (pds_if (pdt_cmp op_gt opd_gt (pd_ix ix_seq opd_ix (pd_var 0) (pd_int)) (pd_int)) (pds_cons (pds_set (i := 2) sc_L_take.nd rfl (.inl rfl) (pd_op op_modN opd_mod (pd_ix ix_seq opd_ix (pd_var 0) (pd_int)) (pd_var 1))) (pds_cons (pds_setIx (pd_op op_fdivA opd_div (pd_ix ix_seq opd_ix (pd_var 0) (pd_int)) (pd_var 1)) (pd_var 0) (pd_int)) (pds_one (pds_ret (pd_var 2))))) (pds_nil)) (pds_cons (pds_setIx (pd_op op_modN opd_mod (pd_op op_addD opd_add (pd_op op_mulA opd_mul (pd_ix ix_seq opd_ix (pd_var 0) (pd_int)) (pd_int)) (pd_int)) (pd_int)) (pd_var 0) (pd_int)) (pds_one (pds_ret (pd_op op_modN opd_mod (pd_op op_fdivA opd_div (pd_op op_modN opd_mod (pd_op op_mulA opd_mul (pd_ix ix_seq opd_ix (pd_var 0) (pd_int)) (pd_ix ix_seq opd_ix (pd_var 0) (pd_int))) (pd_int)) (pd_int)) (pd_var 1))))))
    sem_L_take
theorem PoolAt.mem {ms : MS} {p : Addr} (h : PoolAt ms p) : ∃ e ∈ ms, e.1 = p := by
  obtain ⟨a, b, _, e⟩ := h
  exact ⟨_, look_mem e, rfl⟩
theorem chg_look {ms ms' : MS} {p q : Addr} {xs : List D} (c : Chg ms p ms') (h : look ms q = some xs) (hpq : p ≠ q) : look ms' q = some xs := by
  obtain ⟨a, b, _, rfl⟩ := c
  unfold pu
  rw [look_put_ne hpq]
  exact h
/-- the pool at p, and a list that is being made at q -/
structure PL (ms : MS) (p q : Addr) (xs : List D) : Prop where
  po : PoolAt ms p
  lk : look ms q = some xs
  ne : p ≠ q
theorem PL.new {ms : MS} {p q : Addr} {xs : List D} (h : PoolAt ms p) (hq : ∀ e ∈ ms, e.1 ≠ q) : PL ((q, xs) :: ms) p q xs := by
  obtain ⟨e, he, z⟩ := h.mem
  have hne : p ≠ q := z ▸ hq e he
  obtain ⟨a, b, o, l⟩ := h
  exact ⟨⟨a, b, o, by unfold look; rw [if_neg hne.symm]; exact l⟩, look_new, hne⟩
theorem PL.chg {ms ms' : MS} {p q : Addr} {xs : List D} (h : PL ms p q xs) (c : Chg ms p ms') : PL ms' p q xs := ⟨h.po.chg c, chg_look c h.lk h.ne, h.ne⟩
/-- how many cells are gone through -/
theorem cells_le (N : Int) (h : 1 ≤ N) (y : Nat) : 0 ≤ (if (if N < (y : Int) then N else (y : Int)) > 1 then if N < (y : Int) then N else (y : Int) else 1) ∧ (if (if N < (y : Int) then N else (y : Int)) > 1 then if N < (y : Int) then N else (y : Int) else 1) ≤ N := by
  split
  · split <;> omega
  · omega
theorem comp_pool {g : DG} {te : DE} {ds : DS} {p : Addr} {Good : D → Prop} : ∀ (xs acc : List D) (ms : MS) (P : List D → MS → Prop), PoolAt ms p → acc.length + xs.length ≤ 1000000 →
    (∀ x ∈ xs, ∀ m, PoolAt m p → ∀ P0 : D → MS → Prop, (∀ d m', Good d → PoolAt m' p → Chg m p m' → P0 d m') → g x ds fun ds2 => te ds2 m P0) →
    (∀ ys m', ys.length = xs.length → (∀ y ∈ ys, Good y) → PoolAt m' p → Chg ms p m' → P (acc ++ ys) m') → compD g dYes te ds xs acc ms P
  | [], acc, ms, P, hp, _, _, h => by
    have := h [] ms rfl (fun y hy => by cases hy) hp hp.refl
    rw [List.append_nil] at this
    exact this
  | x :: r, acc, ms, P, hp, hl, t, h => by
    rw [List.length_cons] at hl
    unfold compD
    simp only [dYes, if_true]
    refine t x List.mem_cons_self ms hp _ fun d m' gd hp' c => ⟨Nat.lt_of_lt_of_le (by omega : acc.length < 1000001) (by decide), comp_pool r _ m' P hp' (by rw [List.length_append, List.length_singleton]; omega) (fun y hy => t y (List.mem_cons_of_mem _ hy)) fun ys m2 l2 g2 p2 c2 => ?_⟩
    rw [List.append_assoc]
    exact h (d :: ys) m2 (by rw [List.length_cons, List.length_cons, l2]) (fun y hy => by
      rcases List.mem_cons.mp hy with rfl | hy
      · exact gd
      · exact g2 y hy) p2 (c.trans c2)
theorem PoolAt.cons {m : MS} {p q : Addr} {xs : List D} (h : PoolAt m p) (hne : p ≠ q) : PoolAt ((q, xs) :: m) p := by
  obtain ⟨a, b, o, l⟩ := h
  exact ⟨a, b, o, by unfold look; rw [if_neg hne.symm]; exact l⟩
theorem PoolAt.tail {m : MS} {p q : Addr} {xs : List D} (h : PoolAt ((q, xs) :: m) p) (hne : p ≠ q) : PoolAt m p := by
  obtain ⟨a, b, o, l⟩ := h
  unfold look at l
  rw [if_neg hne.symm] at l
  exact ⟨a, b, o, l⟩
theorem chg_cons {m m1 : MS} {p q : Addr} {xs : List D} (hne : p ≠ q) (c : Chg ((q, xs) :: m) p m1) : ∃ m', m1 = (q, xs) :: m' ∧ Chg m p m' := by
  obtain ⟨a, b, o, rfl⟩ := c
  refine ⟨pu m p a b, ?_, a, b, o, rfl⟩
  unfold pu
  conv => lhs; unfold put
  rw [if_neg hne.symm]
theorem PoolAt.ne {m : MS} {p q : Addr} (h : PoolAt m p) (hq : ∀ e ∈ m, e.1 ≠ q) : p ≠ q := by
  obtain ⟨e, he, z⟩ := h.mem
  exact z ▸ hq e he
theorem put_in : ∀ {ms : MS} {p : Addr} {ys : List D} {q : Addr × List D}, q ∈ put ms p ys → q ∈ ms ∨ q.2 = ys
  | [], _, _, _, h => by cases h
  | (r, zs) :: ms, p, ys, q, h => by
    unfold put at h
    split at h
    · rcases List.mem_cons.mp h with rfl | h
      · exact .inr rfl
      · exact .inl (List.mem_cons_of_mem _ h)
    · rcases List.mem_cons.mp h with rfl | h
      · exact .inl List.mem_cons_self
      · rcases put_in h with h | h
        · exact .inl (List.mem_cons_of_mem _ h)
        · exact .inr h
theorem flatM_chg {ms m1 : MS} {p : Addr} (h : flatM ms) (c : Chg ms p m1) : flatM m1 := by
  obtain ⟨a, b, _, rfl⟩ := c
  intro q hq
  rcases put_in hq with hq | hq
  · exact h q hq
  · rw [hq]; rfl
theorem flatM_cons {ms : MS} {p : Addr} {xs : List D} (h : flatM ms) (hx : flats xs = true) : flatM ((p, xs) :: ms) := fun q hq => by
  rcases List.mem_cons.mp hq with rfl | hq
  · exact hx
  · exact h q hq
theorem flats_ints : ∀ is : List Int, flats (is.map D.int) = true
  | [] => rfl
  | _ :: r => flats_ints r
theorem atI_ints {is : List Int} {i : Int} (h0 : 0 ≤ i) (h1 : i < (is.length : Int)) : ∃ v, atI (is.map D.int) i = some (.int v) ∧ v ∈ is := by
  obtain ⟨j, rfl⟩ : ∃ j : Nat, i = (j : Int) := ⟨i.toNat, by omega⟩
  have hj : j < is.length := by omega
  exact ⟨is[j], atI_nat (by rw [List.getElem?_map, List.getElem?_eq_getElem hj]; rfl), List.getElem_mem hj⟩
theorem word_of3 {a b c : D} {d : D} (h : d ∈ [a, b, c]) (ha : ∃ j, a = wdD j) (hb : ∃ j, b = wdD j) (hc : ∃ j, c = wdD j) : ∃ j, d = wdD j := by
  simp only [List.mem_cons, List.not_mem_nil, or_false] at h
  rcases h with rfl | rfl | rfl
  · exact ha
  · exact hb
  · exact hc
theorem wd_l : ∃ j, D.str "least" = wdD j := ⟨false, rfl⟩
theorem wd_j : ∃ j, D.str "just" = wdD j := ⟨true, rfl⟩
theorem line_cons {B : Nat} {is : List Int} {n : Nat} (hl : is.length = n + 1) (hb : ∀ i ∈ is, Bd B i) (j : Bool) : ∃ w : Wi, D.tup [wdD j, .lst (is.map D.int)] = wiD w ∧ WiOk B n w := by
  cases is with
  | nil => cases hl
  | cons l fs => exact ⟨⟨j, l, fs⟩, rfl, hb, by rw [List.length_cons] at hl; exact Nat.succ.inj hl⟩
/-- a loop over range(n), by its number -/
theorem loop_r {g : DG} {tb : DTS} {E : EN} (I : Nat → DS → MS → Prop) (n : Nat) : ∀ (m k : Nat), k + m = n → ∀ (ds : DS) (ms : MS), I k ds ms →
    (∀ k ds ms, k < n → I k ds ms → ∀ N : DS → MS → Prop, (∀ ds' ms', I (k + 1) ds' ms' → N ds' ms') → g (.int (0 + (k : Nat))) ds fun ds1 => tb (EN.lp E N) ds1 ms) →
    (∀ ds ms, I n ds ms → E.nx ds ms) → loopD g tb E ((List.range' k m).map fun i => D.int (0 + (i : Nat))) ds ms
  | 0, k, hk, ds, ms, h, _, q => q ds ms (by rw [← hk]; exact h)
  | m + 1, k, hk, ds, ms, h, t, q => t k ds ms (by omega) h _ fun ds' ms' h' => loop_r I n m (k + 1) (by omega) ds' ms' h' t q
theorem loop_rng {g : DG} {tb : DTS} {E : EN} (I : Nat → DS → MS → Prop) (n : Nat) {ds : DS} {ms : MS} (h : I 0 ds ms)
    (t : ∀ k ds ms, k < n → I k ds ms → ∀ N : DS → MS → Prop, (∀ ds' ms', I (k + 1) ds' ms' → N ds' ms') → g (.int (0 + (k : Nat))) ds fun ds1 => tb (EN.lp E N) ds1 ms)
    (q : ∀ ds ms, I n ds ms → E.nx ds ms) : loopD g tb E (rng 0 n) ds ms := by
  unfold rng
  rw [List.range_eq_range']
  exact loop_r I n n 0 (Nat.zero_add n) ds ms h t q
theorem take_step {ms : MS} {p : Addr} {m : Int} {P : D → MS → Prop} (h : PoolAt ms p) (m0 : 0 < m) (m1 : m ≤ 10000000000000) (q : ∀ r, 0 ≤ r → r < m → ∀ ms', PoolAt ms' p → Chg ms p ms' → P (.int r) ms') : sp_L_take [.opq (.ref p), .int m] ms P :=
  ⟨h, m0, m1, fun r h0 h1 ms' c => q r h0 h1 ms' (h.chg c) c⟩
theorem take_stepC {m : MS} {p q : Addr} {xs : List D} {n : Int} {P : D → MS → Prop} (hne : p ≠ q) (h : PoolAt m p) (m0 : 0 < n) (m1 : n ≤ 10000000000000) (k : ∀ r, 0 ≤ r → r < n → ∀ m', PoolAt m' p → Chg m p m' → P (.int r) ((q, xs) :: m')) : sp_L_take [.opq (.ref p), .int n] ((q, xs) :: m) P :=
  take_step (h.cons hne) m0 m1 fun r h0 h1 m2 p2 c2 => by
    obtain ⟨m', rfl, c'⟩ := chg_cons hne c2
    exact k r h0 h1 m' (p2.tail hne) c'
/-- a loop over range(n), by its number -/
theorem loop_rn {g : DG} {tb : DTS} {E : EN} (I : Nat → DS → MS → Prop) (n : Nat) {ds : DS} {ms : MS} (h : I 0 ds ms)
    (t : ∀ k ds ms, k < n → I k ds ms → ∀ N : DS → MS → Prop, (∀ ds' ms', I (k + 1) ds' ms' → N ds' ms') → g (.int (k : Int)) ds fun ds1 => tb (EN.lp E N) ds1 ms)
    (q : ∀ ds ms, I n ds ms → E.nx ds ms) : loopD g tb E (rng 0 n) ds ms := loop_rng I n h (fun k ds ms hk hi N hN => by rw [Int.zero_add]; exact t k ds ms hk hi N hN) q
/-- small letters, no more than so many -/
structure Ltr (w : Str) (n : Nat) : Prop where
  len : w.length ≤ n
  ok : (w.cps.toList.all fun c => decide (97 ≤ c) && decide (c < 123)) = true
theorem Ltr.add {w : Str} {n : Nat} {c : Nat} (h : Ltr w n) (h1 : 97 ≤ c) (h2 : c < 123) : Ltr (w ++ ⟨#[c]⟩) (n + 1) := by
  have e : (w ++ (⟨#[c]⟩ : Str)).cps.toList = w.cps.toList ++ [c] := by show (w.cps ++ #[c]).toList = _; simp
  have el : (w ++ (⟨#[c]⟩ : Str)).length = w.length + 1 := strLen_append _ _
  refine ⟨by have := h.len; omega, ?_⟩
  rw [e, List.all_append, h.ok, List.all_cons, List.all_nil, decide_eq_true h1, decide_eq_true h2]; rfl
theorem ltr_nil : Ltr "" 0 := ⟨Nat.le_refl _, rfl⟩
theorem ltr_at {z : Str} (hz : (z.cps.toList.all fun c => decide (97 ≤ c) && decide (c < 123)) = true) {r : Int} (h0 : 0 ≤ r) (h1 : r < (z.cps.toList.length : Int)) : ∃ c, atI z.cps.toList r = some c ∧ 97 ≤ c ∧ c < 123 ∧ z.cps.toList[r.toNat]? = some c := by
  obtain ⟨j, rfl⟩ : ∃ j : Nat, r = (j : Int) := ⟨r.toNat, by omega⟩
  have hj : j < z.cps.toList.length := by omega
  have h := List.all_eq_true.mp hz _ (List.getElem_mem hj)
  rw [Bool.and_eq_true_iff] at h
  exact ⟨_, atI_nat (List.getElem?_eq_getElem hj), of_decide_eq_true h.1, of_decide_eq_true h.2, List.getElem?_eq_getElem hj⟩
def sp_L_names : FS := fun ds ms P => match ds with
  | [.opq (.ref p), .int m, .int s] => PoolAt ms p ∧ 1 ≤ m ∧ m ≤ 6 ∧ s = 6 ∧ ∀ xs : List Str, (xs.length : Int) = m → NmOk 6 xs → ∀ ms', PoolAt ms' p → Chg ms p ms' → P (.lst (xs.map D.str)) ms'
  | _ => False
theorem len_L_names : ∀ ds ms Q, sp_L_names ds ms Q → ds.length = 3 := fun ds ms Q h => by
  unfold sp_L_names at h
  split at h <;> first | rfl | exact h.elim
def t_L_names : DTS := dSeq (dAsg (dLstM (aNil)) (sName 3)) (dSeq (dFor (iRange1 (aCons (dVar 1) (aNil))) (sName 4) (dSeq (dAsg (dC (.str "")) (sName 5)) (dSeq (dFor (iRange1 (aCons (dCall 2 0 [0, 1] sp_L_take (aCons (dVar 0) (aCons (dVar 2) (aNil))) (aNil)) (aNil))) (sName 6) (dAsg (dOp fAdd (dVar 5) (dOp fIx (dC (.str "abcdefghijklmnopqrstuvwxyz")) (dCall 2 0 [0, 1] sp_L_take (aCons (dVar 0) (aCons (dC (.int 26)) (aNil))) (aNil)))) (sName 5))) (dDrop (dAppend (dVar 3) (aCons (dOp fAdd (dVar 5) (dOp fIx (dC (.str "xyzuvw")) (dVar 4))) (aNil))))))) (dRet (dFrz (dVar 3))))
theorem let26 : ((Str.ofString "abcdefghijklmnopqrstuvwxyz").cps.toList.all fun c => decide (97 ≤ c) && decide (c < 123)) = true := by decide +kernel
theorem let6 : ((Str.ofString "xyzuvw").cps.toList.all fun c => decide (97 ≤ c) && decide (c < 123)) = true := by decide +kernel
theorem let6_is : (Str.ofString "xyzuvw").cps.toList = [120, 121, 122, 117, 118, 119] := by decide +kernel
/-- a text's last sign -/
def lastC (x : Str) : Option Nat := x.cps.toList.getLast?
theorem lastC_add (w : Str) (c : Nat) : lastC (w ++ ⟨#[c]⟩) = some c := by
  have e : (w ++ (⟨#[c]⟩ : Str)).cps.toList = w.cps.toList ++ [c] := by show (w.cps ++ #[c]).toList = _; simp
  unfold lastC; rw [e]; simp
theorem nm_last {xs : List Str} {k : Nat} (hk : k ≤ 6) (h : xs.map lastC = (([120, 121, 122, 117, 118, 119] : List Nat).take k).map some) : xs.Nodup := by
  have nd : (xs.map lastC).Nodup := by
    rw [h]
    have : k = 0 ∨ k = 1 ∨ k = 2 ∨ k = 3 ∨ k = 4 ∨ k = 5 ∨ k = 6 := by omega
    rcases this with rfl | rfl | rfl | rfl | rfl | rfl | rfl <;> decide
  exact (List.pairwise_map.mp nd).imp fun h e => h (congrArg _ e)
theorem sem_L_names : ∀ ds ms Q, sp_L_names ds ms Q → t_L_names { nx := fun _ m => Q .non m, rt := Q } (startD 7 ds) ms := by
  intro ds ms Q h
  unfold sp_L_names at h
  split at h
  · rename_i p m s
    obtain ⟨hp, m0, m1, rfl, h⟩ := h
    simp only [startD]
    unfold t_L_names
    walk_at "st"
    intro q hq
    have hne := hp.ne hq
    walk_at "st"
    refine w_mRng ⟨by omega, by omega⟩ ?_
    refine loop_rn (fun k ds m' => ∃ (xs : List Str) (m2 : MS), m' = (q, xs.map D.str) :: m2 ∧ PoolAt m2 p ∧ Chg ms p m2 ∧ xs.map lastC = (([120, 121, 122, 117, 118, 119] : List Nat).take k).map some ∧ (∀ x ∈ xs, goodNm x = true) ∧
      ∃ x4 x5 x6, ds = [some (.opq (.ref p)), some (.int m), some (.int 6), some (.opq (.ref q)), x4, x5, x6]) m.toNat ⟨[], ms, rfl, hp, hp.refl, rfl, (fun x hx => by cases hx), _, _, _, rfl⟩ ?_ ?_
    · rintro k ds m' hk ⟨xs, m2, rfl, p2, c2, hl, hx, x4, x5, x6, rfl⟩ N hN
      walk_at "st"
      refine take_stepC hne p2 (by decide) (by decide) fun r a1 b1 m3 p3 c3 => ?_
      walk_at "st"
      refine w_mRng ⟨by omega, by omega⟩ ?_
      refine loop_rn (fun j ds m' => ∃ (w : Str) (m4 : MS), m' = (q, xs.map D.str) :: m4 ∧ PoolAt m4 p ∧ Chg ms p m4 ∧ Ltr w j ∧ ∃ x6, ds = [some (.opq (.ref p)), some (.int m), some (.int 6), some (.opq (.ref q)), some (.int (k : Int)), some (.str w), x6]) r.toNat ⟨"", m3, rfl, p3, c2.trans c3, ltr_nil, _, rfl⟩ ?_ ?_
      · rintro j ds m' hj ⟨w, m4, rfl, p4, c4, lw, y6, rfl⟩ G hG
        walk_at "st"
        refine take_stepC hne p4 (by decide) (by decide) fun r2 a2 b2 m5 p5 c5 => ?_
        obtain ⟨c, ec, l1, l2, _⟩ := ltr_at let26 a2 (by rw [letters_lit]; exact b2)
        walk_at "st"
        refine w_ix_s (by decide) ec ?_
        have lw2 := lw.add l1 l2
        walk_at "st"
        refine ⟨Nat.le_trans (show w.length + 1 ≤ 10 by have := lw.len; omega) (by decide), ?_⟩
        walk_at "st"
        exact hG _ _ ⟨_, m5, rfl, p5, c4.trans c5, lw2, _, rfl⟩
      · rintro ds m' ⟨w, m4, rfl, p4, c4, lw, y6, rfl⟩
        obtain ⟨c, ec, l1, l2, l3⟩ := ltr_at let6 (r := (k : Int)) (by omega) (by rw [let6_is]; show (k : Int) < 6; omega)
        have lw2 := lw.add l1 l2
        walk_at "st"
        refine w_ix_s (by decide) ec ?_
        walk_at "st"
        refine ⟨Nat.le_trans (show w.length + 1 ≤ 10 by have := lw.len; omega) (by decide), ?_⟩
        walk_at "st"
        have xl : xs.length ≤ 6 := by have := congrArg List.length hl; rw [List.length_map, List.length_map, List.length_take] at this; omega
        refine ⟨Nat.lt_of_lt_of_le (show (xs.map D.str).length < 10 by rw [List.length_map]; omega) (by decide), ?_⟩
        walk_at "st"
        refine hN _ _ ⟨xs ++ [w ++ ⟨#[c]⟩], m4, by rw [List.map_append]; rfl, p4, c4, ?_, ?_, _, _, _, rfl⟩
        · rw [List.map_append, hl, List.map_singleton, lastC_add, let6_is, Int.toNat_natCast] at *
          rw [List.take_add_one, l3, List.map_append]; rfl
        · intro x hx'
          rcases List.mem_append.mp hx' with hx' | hx'
          · exact hx x hx'
          · rw [List.mem_singleton.mp hx']
            unfold goodNm
            have el : (w ++ (⟨#[c]⟩ : Str)).length = w.length + 1 := strLen_append _ _
            rw [lw2.ok, decide_eq_true (by omega : 1 ≤ (w ++ (⟨#[c]⟩ : Str)).length), decide_eq_true (by have := lw.len; omega : (w ++ (⟨#[c]⟩ : Str)).length ≤ 6)]; rfl
    · rintro ds m' ⟨xs, m2, rfl, p2, c2, hl, hx, x4, x5, x6, rfl⟩
      walk_at "st"
      have xl : xs.length = m.toNat := by have := congrArg List.length hl; rw [List.length_map, List.length_map, List.length_take] at this; simp at this; omega
      exact h xs (by omega) ⟨by omega, by omega, nm_last (by omega) hl, hx⟩ m2 p2 c2
  · exact h.elim
theorem ok_L_names (T : Tx P K mg) : FnG P w K mg base 2 T.f_L_names T.d_L_names ["_law_pool_here", "_law_many", "_law_most"] (spD K sp_L_names) := by
  have G_L_take := ok_L_take (P := P) (w := w) (base := base) T
  exact fnG_of (k := 1) (t := t_L_names) T.F_L_names sc_L_names len_L_names
    (fun cdv A outer s H hr => pds_cons (pds_set (i := 3) sc_L_names.nd rfl (.inl rfl) (pd_lstM (pda_nil))) (pds_cons (pds_for (vs := [4]) rfl (pdi_range1 rfl T.n_range (pda_cons (pd_var 1) (pda_nil))) (pg_name (i := 4) sc_L_names.nd rfl (.inl rfl)) (tg_name (i := 4) (by decide)) (pds_cons (pds_set (i := 5) sc_L_names.nd rfl (.inl rfl) (pd_str)) (pds_cons (pds_for (vs := [6]) rfl (pdi_range1 rfl T.n_range (pda_cons (pd_call G_L_take (hr.mono (by decide)) rfl T.g_L_take T.F_L_take.kp T.b_L_take_2 (pda_cons (pd_var 0) (pda_cons (pd_var 2) (pda_nil)))) (pda_nil))) (pg_name (i := 6) sc_L_names.nd rfl (.inl rfl)) (tg_name (i := 6) (by decide)) (pds_one (pds_set (i := 5) sc_L_names.nd rfl (.inl rfl) (pd_op op_addD opd_add (pd_var 5) (pd_ix ix_seq opd_ix (pd_str) (pd_call G_L_take (hr.mono (by decide)) rfl T.g_L_take T.F_L_take.kp T.b_L_take_2 (pda_cons (pd_var 0) (pda_cons (pd_int) (pda_nil))))))))) (pds_one (pds_expr (pd_append (pd_var 3) (pda_cons (pd_op op_addD opd_add (pd_var 5) (pd_ix ix_seq opd_ix (pd_str) (pd_var 4))) (pda_nil)))))))) (pds_one (pds_ret (pd_frz (pd_var 3))))))
    sem_L_names
def sp_L_factor : FS := fun ds ms P => match ds with
  | [.opq (.ref p)] => PoolAt ms p ∧ ∀ i, Bd 41 i → ∀ ms', PoolAt ms' p → Chg ms p ms' → P (.int i) ms'
  | _ => False
theorem len_L_factor : ∀ ds ms Q, sp_L_factor ds ms Q → ds.length = 1 := fun ds ms Q h => by
  unfold sp_L_factor at h
  split at h <;> first | rfl | exact h.elim
def t_L_factor : DTS := dSeq (dIfS (dTest (dOp fEq (dCall 2 0 [0, 1] sp_L_take (aCons (dVar 0) (aCons (dC (.int 12)) (aNil))) (aNil)) (dC (.int 0)))) (dRet (dOp fSub (dCall 2 0 [0, 1] sp_L_take (aCons (dVar 0) (aCons (dOp fMul (dC (.int 2)) (dOp fPow (dC (.int 10)) (dC (.int 12)))) (aNil))) (aNil)) (dOp fPow (dC (.int 10)) (dC (.int 12))))) (dNext)) (dRet (dOp fIx (dLst (aCons (dC (.int 0)) (aCons (dC (.int 1)) (aCons (dNeg (dC (.int 1))) (aCons (dC (.int 0)) (aCons (dC (.int 2)) (aCons (dNeg (dC (.int 3))) (aCons (dC (.int 1)) (aCons (dC (.int 0)) (aNil)))))))))) (dCall 2 0 [0, 1] sp_L_take (aCons (dVar 0) (aCons (dC (.int 8)) (aNil))) (aNil))))
theorem t12 : (10 : Int) ^ Int.toNat 12 = 1000000000000 := by decide +kernel
theorem sem_L_factor : ∀ ds ms Q, sp_L_factor ds ms Q → t_L_factor { nx := fun _ m => Q .non m, rt := Q } (startD 1 ds) ms := by
  intro ds ms Q h
  unfold sp_L_factor at h
  split at h
  · rename_i p
    obtain ⟨hp, h⟩ := h
    simp only [startD]
    unfold t_L_factor
    walk_at "st"
    refine take_step hp (by decide) (by decide) fun r a1 b1 m1 p1 c1 => ?_
    walk_at "st"
    cases e : (r == 0) with
    | true =>
      walk_at "st"
      refine w_pow (by decide) t12 ?_
      walk_at "st"
      refine ⟨.inr (.inr ⟨by decide, by decide⟩), ?_⟩
      walk_at "st"
      refine take_step p1 (by decide) (by decide) fun r2 a2 b2 m2 p2 c2 => ?_
      walk_at "st"
      refine w_pow (by decide) t12 ?_
      walk_at "st"
      exact h _ (by unfold Bd; omega) m2 p2 (c1.trans c2)
    | false =>
      walk_at "st"
      refine take_step p1 (by decide) (by decide) fun r2 a2 b2 m2 p2 c2 => ?_
      have e8 : ∃ v : Int, atI [D.int 0, .int 1, .int (-1), .int 0, .int 2, .int (-3), .int 1, .int 0] r2 = some (.int v) ∧ Bd 41 v := by
        obtain ⟨v, e, hv⟩ := atI_ints (is := [0, 1, -1, 0, 2, -3, 1, 0]) a2 b2
        refine ⟨v, e, ?_⟩
        simp only [List.mem_cons, List.not_mem_nil, or_false] at hv
        unfold Bd; omega
      obtain ⟨v, ev, bv⟩ := e8
      walk_at "st"
      refine w_ix_l ev ?_
      exact h v bv m2 p2 (c1.trans c2)
  · exact h.elim
theorem ok_L_factor (T : Tx P K mg) : FnG P w K mg base 2 T.f_L_factor T.d_L_factor ["_law_pool_here"] (spD K sp_L_factor) := by
  have G_L_take := ok_L_take (P := P) (w := w) (base := base) T
  exact fnG_of (k := 1) (t := t_L_factor) T.F_L_factor sc_L_factor len_L_factor
    (fun cdv A outer s H hr => pds_cons (pds_if (pdt_cmp (op_eqF hr.r.units) opd_eq (pd_call G_L_take (hr.mono (by decide)) rfl T.g_L_take T.F_L_take.kp T.b_L_take_2 (pda_cons (pd_var 0) (pda_cons (pd_int) (pda_nil)))) (pd_int)) (pds_one (pds_ret (pd_op op_sub opd_sub (pd_call G_L_take (hr.mono (by decide)) rfl T.g_L_take T.F_L_take.kp T.b_L_take_2 (pda_cons (pd_var 0) (pda_cons (pd_op op_mulA opd_mul (pd_int) (pd_op op_pow opd_pow (pd_int) (pd_int))) (pda_nil)))) (pd_op op_pow opd_pow (pd_int) (pd_int))))) (pds_nil)) (pds_one (pds_ret (pd_ix ix_seq opd_ix (pd_lst (pda_cons (pd_int) (pda_cons (pd_int) (pda_cons (pd_neg (pd_int)) (pda_cons (pd_int) (pda_cons (pd_int) (pda_cons (pd_neg (pd_int)) (pda_cons (pd_int) (pda_cons (pd_int) (pda_nil)))))))))) (pd_call G_L_take (hr.mono (by decide)) rfl T.g_L_take T.F_L_take.kp T.b_L_take_2 (pda_cons (pd_var 0) (pda_cons (pd_int) (pda_nil))))))))
    sem_L_factor
def sp_L_line : FS := fun ds ms P => match ds with
  | [.opq (.ref p), .int m] => PoolAt ms p ∧ 0 ≤ m ∧ m ≤ 8 ∧ ∀ is : List Int, (is.length : Int) = m + 1 → (∀ i ∈ is, Bd 41 i) → ∀ ms', PoolAt ms' p → Chg ms p ms' → P (.lst (is.map D.int)) ms'
  | _ => False
theorem len_L_line : ∀ ds ms Q, sp_L_line ds ms Q → ds.length = 2 := fun ds ms Q h => by
  unfold sp_L_line at h
  split at h <;> first | rfl | exact h.elim
def t_L_line : DTS := dRet (dOp fAdd (dLst (aCons (dOp fSub (dCall 2 0 [0, 1] sp_L_take (aCons (dVar 0) (aCons (dC (.int 9)) (aNil))) (aNil)) (dC (.int 4))) (aNil))) (dLc (iRange1 (aCons (dVar 1) (aNil))) (sName 2) (dYes) (dCall 1 0 [0] sp_L_factor (aCons (dVar 0) (aNil)) (aNil)) [2]))
theorem sem_L_line : ∀ ds ms Q, sp_L_line ds ms Q → t_L_line { nx := fun _ m => Q .non m, rt := Q } (startD 3 ds) ms := by
  intro ds ms Q h
  unfold sp_L_line at h
  split at h
  · rename_i p m
    obtain ⟨hp, m0, m8, h⟩ := h
    simp only [startD]
    unfold t_L_line
    walk_at "st"
    refine take_step hp (by decide) (by decide) fun r a1 b1 m1 p1 c1 => ?_
    walk_at "st"
    refine w_mRng ⟨by omega, by omega⟩ ?_
    simp only [wipeD, List.set]
    refine comp_pool (p := p) (Good := fun d => ∃ i, d = .int i ∧ Bd 41 i) _ [] m1 _ p1 ?_ ?_ ?_
    · rw [rng_len, List.length_nil]; omega
    · intro x hx m1 hm P0 q
      walk_at "st"
      exact ⟨hm, fun i bi m2 p2 c2 => q _ _ ⟨i, rfl, bi⟩ p2 c2⟩
    · intro ys m2 hl hg p2 c2
      rw [List.nil_append]
      rw [rng_len] at hl
      obtain ⟨is, rfl, hi, _⟩ := ints_of _ hg
      rw [List.length_map] at hl
      walk_at "st"
      try refine ⟨size_ok (by simp; omega), ?_⟩
      walk_at "st"
      exact h ((r - 4) :: is) (by rw [List.length_cons]; omega) (fun i h => by
        rcases List.mem_cons.mp h with rfl | h
        · unfold Bd; omega
        · exact hi i h) m2 p2 (c1.trans c2)
  · exact h.elim
theorem ok_L_line (T : Tx P K mg) : FnG P w K mg base 3 T.f_L_line T.d_L_line ["_law_pool_here", "_law_many"] (spD K sp_L_line) := by
  have G_L_factor := ok_L_factor (P := P) (w := w) (base := base) T
  have G_L_take := ok_L_take (P := P) (w := w) (base := base) T
  exact fnG_of (k := 2) (t := t_L_line) T.F_L_line sc_L_line len_L_line
    (fun cdv A outer s H hr => pds_one (pds_ret (pd_op op_addD opd_add (pd_lst (pda_cons (pd_op op_sub opd_sub (pd_call G_L_take (hr.mono (by decide)) rfl T.g_L_take T.F_L_take.kp T.b_L_take_2 (pda_cons (pd_var 0) (pda_cons (pd_int) (pda_nil)))) (pd_int)) (pda_nil))) (pd_lc (own := [("_law_turn", 2)]) rfl sc_L_line.nd (pdi_range1 rfl T.n_range (pda_cons (pd_var 1) (pda_nil))) (blkOk_by (own := [("_law_turn", 2)]) (by kernel_rfl)) (fun _ _ _ _ _ => pg_name (i := 2) sc_L_line.nd rfl (by first | exact .inl rfl | exact .inr rfl)) (tg_name (i := 2) (by decide)) (mon_name (i := 2)) (fun _ _ _ _ _ => pdts_nil) (fun _ _ _ _ _ => pd_call G_L_factor (hr.mono (by decide)) rfl T.g_L_factor T.F_L_factor.kp T.b_L_factor_1 (pda_cons (pd_var 0) (pda_nil)))))))
    sem_L_line
def sp_L_wishes : FS := fun ds ms P => match ds with
  | [.opq (.ref p), .int n, .int s] => PoolAt ms p ∧ 0 ≤ n ∧ n ≤ 6 ∧ 0 ≤ s ∧ s ≤ 12 ∧ ∀ ws : List Wi, (ws.length : Int) ≤ s → (∀ w ∈ ws, WiOk 41 n.toNat w) → ∀ ms', PoolAt ms' p → Chg ms p ms' → P (.lst (ws.map wiD)) ms'
  | _ => False
theorem len_L_wishes : ∀ ds ms Q, sp_L_wishes ds ms Q → ds.length = 3 := fun ds ms Q h => by
  unfold sp_L_wishes at h
  split at h <;> first | rfl | exact h.elim
def t_L_wishes : DTS := dSeq (dAsg (dLstM (aNil)) (sName 3)) (dSeq (dFor (iRange1 (aCons (dCall 2 0 [0, 1] sp_L_take (aCons (dVar 0) (aCons (dOp fAdd (dVar 2) (dC (.int 1))) (aNil))) (aNil)) (aNil))) (sName 4) (dDrop (dAppend (dVar 3) (aCons (dTup (aCons (dOp fIx (dLst (aCons (dC (.str "least")) (aCons (dC (.str "least")) (aCons (dC (.str "just")) (aNil))))) (dCall 2 0 [0, 1] sp_L_take (aCons (dVar 0) (aCons (dC (.int 3)) (aNil))) (aNil))) (aCons (dCall 2 0 [0, 1] sp_L_line (aCons (dVar 0) (aCons (dVar 1) (aNil))) (aNil)) (aNil)))) (aNil))))) (dRet (dFrz (dVar 3))))
theorem sem_L_wishes : ∀ ds ms Q, sp_L_wishes ds ms Q → t_L_wishes { nx := fun _ m => Q .non m, rt := Q } (startD 5 ds) ms := by
  intro ds ms Q h
  unfold sp_L_wishes at h
  split at h
  · rename_i p n s
    obtain ⟨hp, n0, n6, s0, s12, h⟩ := h
    simp only [startD]
    unfold t_L_wishes
    walk_at "st"
    intro q hq
    have hne := hp.ne hq
    walk_at "st"
    refine take_stepC hne hp (by omega) (by omega) fun r a1 b1 m1 p1 c1 => ?_
    walk_at "st"
    refine w_mRng ⟨by omega, by omega⟩ ?_
    refine loop_rn (fun k ds m' => ∃ (ws : List Wi) (m2 : MS), m' = (q, ws.map wiD) :: m2 ∧ PoolAt m2 p ∧ Chg ms p m2 ∧ ws.length = k ∧ (∀ w ∈ ws, WiOk 41 n.toNat w) ∧ ∃ x4, ds = [some (.opq (.ref p)), some (.int n), some (.int s), some (.opq (.ref q)), x4]) r.toNat ⟨[], m1, rfl, p1, c1, rfl, (fun x hx => by cases hx), _, rfl⟩ ?_ ?_
    · rintro k ds m' hk ⟨ws, m2, rfl, p2, c2, hl, hw, x4, rfl⟩ N hN
      walk_at "st"
      refine take_stepC hne p2 (by decide) (by decide) fun r2 a2 b2 m3 p3 c3 => ?_
      obtain ⟨d, ed, hd⟩ : ∃ d, atI [D.str "least", .str "least", .str "just"] r2 = some d ∧ d ∈ [D.str "least", .str "least", .str "just"] := by
        obtain ⟨j, rfl⟩ : ∃ j : Nat, r2 = (j : Int) := ⟨r2.toNat, by omega⟩
        have hj : j < [D.str "least", .str "least", .str "just"].length := by show j < 3; omega
        exact ⟨_, atI_nat (List.getElem?_eq_getElem hj), List.getElem_mem hj⟩
      obtain ⟨jb, rfl⟩ := word_of3 hd wd_l wd_l wd_j
      walk_at "st"
      refine w_ix_l ed ?_
      walk_at "st"
      refine ⟨p3.cons hne, by omega, by omega, fun is il bd m4 p4 c4 => ?_⟩
      obtain ⟨m5, rfl, c5⟩ := chg_cons hne c4
      obtain ⟨w, ew, ow⟩ := line_cons (n := n.toNat) (by omega) bd jb
      walk_at "st"
      rw [ew]
      refine ⟨Nat.lt_of_lt_of_le (show (ws.map wiD).length < 20 by rw [List.length_map]; omega) (by decide), ?_⟩
      walk_at "st"
      refine hN _ _ ⟨ws ++ [w], m5, by rw [List.map_append]; rfl, p4.tail hne, c2.trans (c3.trans c5), by rw [List.length_append, List.length_singleton, hl], fun z hz => ?_, _, rfl⟩
      rcases List.mem_append.mp hz with hz | hz
      · exact hw z hz
      · rw [List.mem_singleton.mp hz]; exact ow
    · rintro ds m' ⟨ws, m2, rfl, p2, c2, hl, hw, x4, rfl⟩
      walk_at "st"
      exact h ws (by omega) hw m2 p2 c2
  · exact h.elim
theorem ok_L_wishes (T : Tx P K mg) : FnG P w K mg base 4 T.f_L_wishes T.d_L_wishes ["_law_pool_here", "_law_many", "_law_most"] (spD K sp_L_wishes) := by
  have G_L_take := ok_L_take (P := P) (w := w) (base := base) T
  have G_L_line := ok_L_line (P := P) (w := w) (base := base) T
  exact fnG_of (k := 3) (t := t_L_wishes) T.F_L_wishes sc_L_wishes len_L_wishes
    (fun cdv A outer s H hr => pds_cons (pds_set (i := 3) sc_L_wishes.nd rfl (.inl rfl) (pd_lstM (pda_nil))) (pds_cons (pds_for (vs := [4]) rfl (pdi_range1 rfl T.n_range (pda_cons (pd_call G_L_take (hr.mono (by decide)) rfl T.g_L_take T.F_L_take.kp T.b_L_take_2 (pda_cons (pd_var 0) (pda_cons (pd_op op_addD opd_add (pd_var 2) (pd_int)) (pda_nil)))) (pda_nil))) (pg_name (i := 4) sc_L_wishes.nd rfl (.inl rfl)) (tg_name (i := 4) (by decide)) (pds_one (pds_expr (pd_append (pd_var 3) (pda_cons (pd_tup (pda_cons (pd_ix ix_seq opd_ix (pd_lst (pda_cons (pd_str) (pda_cons (pd_str) (pda_cons (pd_str) (pda_nil))))) (pd_call G_L_take (hr.mono (by decide)) rfl T.g_L_take T.F_L_take.kp T.b_L_take_2 (pda_cons (pd_var 0) (pda_cons (pd_int) (pda_nil))))) (pda_cons (pd_call G_L_line (hr.mono (by decide)) rfl T.g_L_line T.F_L_line.kp T.b_L_line_2 (pda_cons (pd_var 0) (pda_cons (pd_var 1) (pda_nil)))) (pda_nil)))) (pda_nil)))))) (pds_one (pds_ret (pd_frz (pd_var 3))))))
    sem_L_wishes
theorem NmOk.less {n m : Nat} {xs : List Str} (h : NmOk n xs) (hl : xs.length ≤ m) : NmOk m xs := ⟨h.l1, hl, h.nd, h.ok⟩
def sp_L_program : FS := fun ds ms P => match ds with
  | [.opq (.ref p), .int a, .int b] => PoolAt ms p ∧ 1 ≤ a ∧ a ≤ 6 ∧ 0 ≤ b ∧ b ≤ 10 ∧ ∀ (g : Pg) (q : Addr) (ms' : MS), PgOk 41 g → (g.pm.length : Int) ≤ a → (g.rs.length : Int) ≤ b → p ≠ q → (∀ e ∈ ms, e.1 ≠ q) → PoolAt ms' p → Chg ms p ms' → P (.tup [.lst (g.nm.map D.str), .lst (g.pm.map D.str), .opq (.ref q)]) ((q, g.rs.map rwD) :: ms')
  | _ => False
theorem len_L_program : ∀ ds ms Q, sp_L_program ds ms Q → ds.length = 3 := fun ds ms Q h => by
  unfold sp_L_program at h
  split at h <;> first | rfl | exact h.elim
def t_L_program : DTS := dSeq (dAsg (dCall 3 0 [0, 1, 2] sp_L_names (aCons (dVar 0) (aCons (dOp fAdd (dC (.int 1)) (dCall 2 0 [0, 1] sp_L_take (aCons (dVar 0) (aCons (dC (.int 3)) (aNil))) (aNil))) (aCons (dC (.int 6)) (aNil)))) (aNil)) (sName 3)) (dSeq (dAsg (dCall 3 0 [0, 1, 2] sp_L_names (aCons (dVar 0) (aCons (dOp fAdd (dC (.int 1)) (dCall 2 0 [0, 1] sp_L_take (aCons (dVar 0) (aCons (dVar 1) (aNil))) (aNil))) (aCons (dC (.int 6)) (aNil)))) (aNil)) (sName 4)) (dSeq (dAsg (dLstM (aNil)) (sName 5)) (dSeq (dFor (iRange1 (aCons (dCall 2 0 [0, 1] sp_L_take (aCons (dVar 0) (aCons (dOp fAdd (dVar 2) (dC (.int 1))) (aNil))) (aNil)) (aNil))) (sName 6) (dSeq (dAsg (dCall 2 0 [0, 1] sp_L_take (aCons (dVar 0) (aCons (dCB cLen (aCons (dVar 4) (aNil))) (aNil))) (aNil)) (sName 7)) (dSeq (dAsg (dCall 2 0 [0, 1] sp_L_take (aCons (dVar 0) (aCons (dCB cLen (aCons (dVar 4) (aNil))) (aNil))) (aNil)) (sName 8)) (dDrop (dAppend (dVar 5) (aCons (dTup (aCons (dVar 7) (aCons (dVar 8) (aCons (dCall 3 0 [0, 1, 2] sp_L_wishes (aCons (dVar 0) (aCons (dOp fMul (dC (.int 2)) (dCB cLen (aCons (dVar 3) (aNil)))) (aCons (dOp fIx (dLst (aCons (dC (.int 1)) (aCons (dC (.int 3)) (aCons (dC (.int 4)) (aCons (dC (.int 12)) (aNil)))))) (dCall 2 0 [0, 1] sp_L_take (aCons (dVar 0) (aCons (dC (.int 4)) (aNil))) (aNil))) (aNil)))) (aNil)) (aNil))))) (aNil))))))) (dRet (dTup (aCons (dVar 3) (aCons (dVar 4) (aCons (dVar 5) (aNil)))))))))
theorem sem_L_program : ∀ ds ms Q, sp_L_program ds ms Q → t_L_program { nx := fun _ m => Q .non m, rt := Q } (startD 9 ds) ms := by
  intro ds ms Q h
  unfold sp_L_program at h
  split at h
  · rename_i p a b
    obtain ⟨hp, a1, a6, b0, b10, h⟩ := h
    simp only [startD]
    unfold t_L_program
    walk_at "st"
    refine take_step hp (by decide) (by decide) fun r1 c1 d1 m1 p1 g1 => ?_
    walk_at "st"
    refine ⟨p1, by omega, by omega, rfl, fun nm nl no m2 p2 g2 => ?_⟩
    walk_at "st"
    refine take_step p2 (by omega) (by omega) fun r2 c2 d2 m3 p3 g3 => ?_
    walk_at "st"
    refine ⟨p3, by omega, by omega, rfl, fun pm pl po m4 p4 g4 => ?_⟩
    have chg4 := ((g1.trans g2).trans g3).trans g4
    have no3 := no.less (m := 3) (by omega)
    walk_at "st"
    intro q hq
    have hne := p4.ne hq
    have hq0 : ∀ e ∈ ms, e.1 ≠ q := fun e he z => by
      obtain ⟨x, y, _, rfl⟩ := chg4
      have : e.1 ∈ (pu ms p x y).map (·.1) := by
        unfold pu
        have adr : ∀ M : MS, (put M p [.int x, .int y]).map (·.1) = M.map (·.1) := fun M => by
          induction M with
          | nil => rfl
          | cons c r ih =>
            obtain ⟨c1, c2⟩ := c
            unfold put
            split
            · rename_i e; rw [e]; rfl
            · rw [List.map_cons, List.map_cons, ih]
        rw [adr]; exact List.mem_map_of_mem he
      obtain ⟨f, hf, ef⟩ := List.mem_map.mp this
      exact hq f hf (ef.trans z)
    walk_at "st"
    refine take_stepC hne p4 (by omega) (by omega) fun r3 c3 d3 m5 p5 g5 => ?_
    walk_at "st"
    refine w_mRng ⟨by omega, by omega⟩ ?_
    refine loop_rn (fun k ds m' => ∃ (rs : List Rw) (m2 : MS), m' = (q, rs.map rwD) :: m2 ∧ PoolAt m2 p ∧ Chg ms p m2 ∧ rs.length = k ∧ (∀ r ∈ rs, RwOk 41 nm.length pm.length r) ∧ ∃ x6 x7 x8, ds = [some (.opq (.ref p)), some (.int a), some (.int b), some (.lst (nm.map D.str)), some (.lst (pm.map D.str)), some (.opq (.ref q)), x6, x7, x8]) r3.toNat ⟨[], m5, rfl, p5, chg4.trans g5, rfl, (fun x hx => by cases hx), _, _, _, rfl⟩ ?_ ?_
    · rintro k ds m' hk ⟨rs, m6, rfl, p6, g6, hl, hr, x6, x7, x8, rfl⟩ N hN
      walk_at "st"
      rw [List.length_map]
      refine take_stepC hne p6 (by omega) (by omega) fun s e1 f1 m7 p7 g7 => ?_
      walk_at "st"
      rw [List.length_map]
      refine take_stepC hne p7 (by omega) (by omega) fun t e2 f2 m8 p8 g8 => ?_
      walk_at "st"
      rw [List.length_map]
      refine ⟨.inr (.inr ⟨by omega, by omega⟩), ?_⟩
      walk_at "st"
      refine take_stepC hne p8 (by decide) (by decide) fun v e3 f3 m9 p9 g9 => ?_
      obtain ⟨y, ey, hy⟩ := atI_ints (is := [1, 3, 4, 12]) e3 f3
      have yb : 0 ≤ y ∧ y ≤ 12 := by simp only [List.mem_cons, List.not_mem_nil, or_false] at hy; omega
      walk_at "st"
      refine w_ix_l ey ?_
      walk_at "st"
      refine ⟨p9.cons hne, by omega, by omega, yb.1, yb.2, fun ws wl wo mA pA gA => ?_⟩
      obtain ⟨mB, rfl, gB⟩ := chg_cons hne gA
      walk_at "st"
      refine ⟨Nat.lt_of_lt_of_le (show (rs.map rwD).length < 20 by rw [List.length_map]; omega) (by decide), ?_⟩
      walk_at "st"
      refine hN _ _ ⟨rs ++ [⟨s, t, ws⟩], mB, by rw [List.map_append]; rfl, pA.tail hne, g6.trans (g7.trans (g8.trans (g9.trans gB))), by rw [List.length_append, List.length_singleton, hl], fun z hz => ?_, _, _, _, rfl⟩
      rcases List.mem_append.mp hz with hz | hz
      · exact hr z hz
      · rw [List.mem_singleton.mp hz]
        exact ⟨e1, f1, e2, f2, by show ws.length ≤ 12; omega, fun w hw => by have := wo w hw; rwa [show (2 * (nm.length : Int)).toNat = 2 * nm.length by omega] at this⟩
    · rintro ds m' ⟨rs, m6, rfl, p6, g6, hl, hr, x6, x7, x8, rfl⟩
      walk_at "st"
      exact h ⟨nm, pm, rs⟩ q m6 ⟨no3, po, by show rs.length ≤ 10; omega, hr⟩ (by show (pm.length : Int) ≤ a; omega) (by show (rs.length : Int) ≤ b; omega) hne hq0 p6 g6
  · exact h.elim
theorem ok_L_program (T : Tx P K mg) : FnG P w K mg base 5 T.f_L_program T.d_L_program ["_law_pool_here", "_law_called_here", "_law_lines"] (spD K sp_L_program) := by
  have G_L_names := ok_L_names (P := P) (w := w) (base := base) T
  have G_L_take := ok_L_take (P := P) (w := w) (base := base) T
  have G_L_wishes := ok_L_wishes (P := P) (w := w) (base := base) T
  exact fnG_of (k := 4) (t := t_L_program) T.F_L_program sc_L_program len_L_program
    (fun cdv A outer s H hr => pds_cons (pds_set (i := 3) sc_L_program.nd rfl (.inl rfl) (pd_call G_L_names (hr.mono (by decide)) rfl T.g_L_names T.F_L_names.kp T.b_L_names_3 (pda_cons (pd_var 0) (pda_cons (pd_op op_addD opd_add (pd_int) (pd_call G_L_take (hr.mono (by decide)) rfl T.g_L_take T.F_L_take.kp T.b_L_take_2 (pda_cons (pd_var 0) (pda_cons (pd_int) (pda_nil))))) (pda_cons (pd_int) (pda_nil)))))) (pds_cons (pds_set (i := 4) sc_L_program.nd rfl (.inl rfl) (pd_call G_L_names (hr.mono (by decide)) rfl T.g_L_names T.F_L_names.kp T.b_L_names_3 (pda_cons (pd_var 0) (pda_cons (pd_op op_addD opd_add (pd_int) (pd_call G_L_take (hr.mono (by decide)) rfl T.g_L_take T.F_L_take.kp T.b_L_take_2 (pda_cons (pd_var 0) (pda_cons (pd_var 1) (pda_nil))))) (pda_cons (pd_int) (pda_nil)))))) (pds_cons (pds_set (i := 5) sc_L_program.nd rfl (.inl rfl) (pd_lstM (pda_nil))) (pds_cons (pds_for (vs := [6]) rfl (pdi_range1 rfl T.n_range (pda_cons (pd_call G_L_take (hr.mono (by decide)) rfl T.g_L_take T.F_L_take.kp T.b_L_take_2 (pda_cons (pd_var 0) (pda_cons (pd_op op_addD opd_add (pd_var 2) (pd_int)) (pda_nil)))) (pda_nil))) (pg_name (i := 6) sc_L_program.nd rfl (.inl rfl)) (tg_name (i := 6) (by decide)) (pds_cons (pds_set (i := 7) sc_L_program.nd rfl (.inl rfl) (pd_call G_L_take (hr.mono (by decide)) rfl T.g_L_take T.F_L_take.kp T.b_L_take_2 (pda_cons (pd_var 0) (pda_cons (pd_callB call_len cal_len rfl T.n_len (by decide +kernel) (pda_cons (pd_var 4) (pda_nil))) (pda_nil))))) (pds_cons (pds_set (i := 8) sc_L_program.nd rfl (.inl rfl) (pd_call G_L_take (hr.mono (by decide)) rfl T.g_L_take T.F_L_take.kp T.b_L_take_2 (pda_cons (pd_var 0) (pda_cons (pd_callB call_len cal_len rfl T.n_len (by decide +kernel) (pda_cons (pd_var 4) (pda_nil))) (pda_nil))))) (pds_one (pds_expr (pd_append (pd_var 5) (pda_cons (pd_tup (pda_cons (pd_var 7) (pda_cons (pd_var 8) (pda_cons (pd_call G_L_wishes (hr.mono (by decide)) rfl T.g_L_wishes T.F_L_wishes.kp T.b_L_wishes_3 (pda_cons (pd_var 0) (pda_cons (pd_op op_mulA opd_mul (pd_int) (pd_callB call_len cal_len rfl T.n_len (by decide +kernel) (pda_cons (pd_var 3) (pda_nil)))) (pda_cons (pd_ix ix_seq opd_ix (pd_lst (pda_cons (pd_int) (pda_cons (pd_int) (pda_cons (pd_int) (pda_cons (pd_int) (pda_nil)))))) (pd_call G_L_take (hr.mono (by decide)) rfl T.g_L_take T.F_L_take.kp T.b_L_take_2 (pda_cons (pd_var 0) (pda_cons (pd_int) (pda_nil))))) (pda_nil))))) (pda_nil))))) (pda_nil)))))))) (pds_one (pds_ret (pd_tup (pda_cons (pd_var 3) (pda_cons (pd_var 4) (pda_cons (pd_var 5) (pda_nil)))))))))))
    sem_L_program
def dueD (g1 g2 : Pg) (a b : D) : D := if okM 6 a = true then (if okM 10 b = true then (if unl g1 g2 = true then .str "unlike" else if tooM g1 g2 a b = true then .str "many" else pgD (besG g1 g2)) else .tup [.str "number", b]) else .tup [.str "number", a]
def sp_L_due : FS := fun ds ms P => match ds with
  | [d1, d2, a, b] => ∃ (g1 g2 : Pg) (B : Nat), d1 = pgD g1 ∧ d2 = pgD g2 ∧ PgOk B g1 ∧ PgOk B g2 ∧ (∃ t, tyD a = some t) ∧ (∃ t, tyD b = some t) ∧ P (dueD g1 g2 a b) ms
  | _ => False
theorem len_L_due : ∀ ds ms Q, sp_L_due ds ms Q → ds.length = 4 := fun ds ms Q h => by
  unfold sp_L_due at h
  split at h <;> first | rfl | exact h.elim
def t_L_due_c2 : DTS := dSeq (dIfS (dOr (dTest (dOp fGt (dOp fAdd (dCB cLen (aCons (dOp fIx (dVar 0) (dC (.int 1))) (aNil))) (dCB cLen (aCons (dOp fIx (dVar 1) (dC (.int 1))) (aNil)))) (dVar 2))) (dTest (dOp fGt (dOp fAdd (dCB cLen (aCons (dOp fIx (dVar 0) (dC (.int 2))) (aNil))) (dCB cLen (aCons (dOp fIx (dVar 1) (dC (.int 2))) (aNil)))) (dVar 3)))) (dRet (dC (.str "many"))) (dNext)) (dSeq (dAsg (dCB cLen (aCons (dOp fIx (dVar 0) (dC (.int 1))) (aNil))) (sName 6)) (dSeq (dAsg (dLc (iSeq (dOp fIx (dVar 1) (dC (.int 2)))) (sTup 3 (sCons (sName 8) (sCons (sName 9) (sCons (sName 10) (sNil))))) (dYes) (dTup (aCons (dOp fAdd (dVar 8) (dVar 6)) (aCons (dOp fAdd (dVar 9) (dVar 6)) (aCons (dVar 10) (aNil))))) [8, 9, 10]) (sName 7)) (dRet (dTup (aCons (dOp fIx (dVar 0) (dC (.int 0))) (aCons (dOp fAdd (dOp fIx (dVar 0) (dC (.int 1))) (dOp fIx (dVar 1) (dC (.int 1)))) (aCons (dOp fAdd (dOp fIx (dVar 0) (dC (.int 2))) (dVar 7)) (aNil))))))))
def t_L_due_c1 : DTS := dSeq (dIfS (dOr (dTest (dOp fNe (dCB cLen (aCons (dOp fIx (dVar 0) (dC (.int 0))) (aNil))) (dCB cLen (aCons (dOp fIx (dVar 1) (dC (.int 0))) (aNil))))) (dTest (dOp fNe (dLc (iSeq (dOp fIx (dVar 1) (dC (.int 1)))) (sName 11) (dTest (dOp fIn (dVar 11) (dOp fIx (dVar 0) (dC (.int 1))))) (dVar 11) [11]) (dLst (aNil))))) (dRet (dC (.str "unlike"))) (dNext)) (t_L_due_c2)
def t_L_due : DTS := dSeq (dFor (iSeq (dLst (aCons (dTup (aCons (dVar 2) (aCons (dC (.int 6)) (aNil)))) (aCons (dTup (aCons (dVar 3) (aCons (dC (.int 10)) (aNil)))) (aNil))))) (sTup 2 (sCons (sName 4) (sCons (sName 5) (sNil)))) (dIfS (dOr (dNot (dTest (dIsi .int (dVar 4)))) (dOr (dTest (dIsi .bool (dVar 4))) (dNot (dTest (dChain fLe fLe (dC (.int 1)) (dVar 4) (dVar 5)))))) (dRet (dTup (aCons (dC (.str "number")) (aCons (dVar 4) (aNil))))) (dNext))) (t_L_due_c1)
theorem comp_filt_e {α : Type} {g : DG} {tt : DT} {te : DE} {ds : DS} {ms : MS} (e : α → D) (p : α → Bool) (f : α → D) : ∀ (xs : List α) (acc : List D) (P : List D → MS → Prop), acc.length + xs.length ≤ 1000000 →
    (∀ x ∈ xs, ∀ (K : D → MS → Prop) (L : MS → Prop), (p x = true → K (f x) ms) → (p x = false → L ms) → g (e x) ds fun ds2 => tt ds2 ms fun b m3 => if b = true then te ds2 m3 K else L m3) →
    P (acc ++ (xs.filter p).map f) ms → compD g tt te ds (xs.map e) acc ms P
  | [], acc, P, _, _, h => by rw [List.filter_nil, List.map_nil, List.append_nil] at h; exact h
  | x :: r, acc, P, hl, t, h => by
    rw [List.length_cons] at hl
    rw [List.map_cons]
    unfold compD
    refine t x List.mem_cons_self (fun y m4 => acc.length < sizeLine ∧ compD g tt te ds (r.map e) (acc ++ [y]) m4 P) (fun m3 => compD g tt te ds (r.map e) acc m3 P) (fun e1 => ?_) fun e1 => ?_
    · refine ⟨Nat.lt_of_lt_of_le (by omega : acc.length < 1000001) (by decide), comp_filt_e e p f r _ P (by rw [List.length_append, List.length_singleton]; omega) (fun y hy => t y (List.mem_cons_of_mem _ hy)) ?_⟩
      rw [List.filter_cons, if_pos e1, List.map_cons] at h
      rw [List.append_assoc]
      exact h
    · refine comp_filt_e e p f r _ P (by omega) (fun y hy => t y (List.mem_cons_of_mem _ hy)) ?_
      rw [List.filter_cons, if_neg (by rw [e1]; decide)] at h
      exact h
theorem filt_emptyV {α : Type} (p : α → Bool) (f : α → D) : ∀ xs : List α, (((xs.filter p).map f).isEmpty) = !xs.any p
  | [] => rfl
  | x :: r => by
    rw [List.filter_cons, List.any_cons]
    cases h : p x with
    | true => simp
    | false => simp only [Bool.false_eq_true, if_false, Bool.false_or]; exact filt_emptyV p f r
theorem loop_two {g : DG} {tb : DTS} {E : EN} {x y : D} {ds : DS} {ms : MS} (h : g x ds fun ds1 => tb (EN.lp E fun ds2 ms2 => g y ds2 fun ds3 => tb (EN.lp E E.nx) ds3 ms2) ds1 ms) : loopD g tb E [x, y] ds ms := h
theorem sem_L_due : ∀ ds ms Q, sp_L_due ds ms Q → t_L_due { nx := fun _ m => Q .non m, rt := Q } (startD 12 ds) ms := by
  intro ds ms Q h
  unfold sp_L_due at h
  split at h
  · rename_i d1 d2 a b
    obtain ⟨g1, g2, B, rfl, rfl, ok1, ok2, ⟨ta, ea⟩, ⟨tb, eb⟩, h⟩ := h
    simp only [startD]
    unfold t_L_due
    have r1 := ok1.rl
    have r2 := ok2.rl
    have q1 := ok1.pm.l2
    have q2 := ok2.pm.l2
    have step : ∀ (d : D) (top : Int) (ty : Ty) (G : DS → MS → Prop) (x4 x5 : Option D), tyD d = some ty → (okM top d = true → G [some (pgD g1), some (pgD g2), some a, some b, some d, some (.int top), none, none, none, none, none, none] ms) → (okM top d = false → Q (.tup [.str "number", d]) ms) →
        (sTup 2 (sCons (sName 4) (sCons (sName 5) sNil))) (.tup [d, .int top]) [some (pgD g1), some (pgD g2), some a, some b, x4, x5, none, none, none, none, none, none] fun ds1 => (dIfS (dOr (dNot (dTest (dIsi Ty.int (dVar 4)))) (dOr (dTest (dIsi Ty.bool (dVar 4))) (dNot (dTest (dChain fLe fLe (dC (D.int 1)) (dVar 4) (dVar 5))))))
          (dRet (dTup (aCons (dC (D.str "number")) (aCons (dVar 4) aNil)))) dNext) (EN.lp (({ nx := fun x m => Q D.non m, rt := Q } : EN).wn (StG t_L_due_c1 { nx := fun x m => Q D.non m, rt := Q })) G) ds1 ms := fun d top ty G x4 x5 e hg hn => by
      walk_at "st"
      cases d with
      | int i =>
        walk_at "st"
        by_cases h1 : 1 ≤ i
        · refine w_iteT (decide_eq_true h1) ?_
          walk_at "st"
          by_cases h2 : i ≤ top
          · rw [decide_eq_true h2]
            walk_at "st"
            exact hg (by show (decide _ && decide _) = true; rw [decide_eq_true h1, decide_eq_true h2]; rfl)
          · rw [decide_eq_false h2]
            walk_at "st"
            exact hn (by show (decide _ && decide _) = false; rw [decide_eq_false h2, Bool.and_false])
        · refine w_iteF (decide_eq_false h1) ?_
          walk_at "st"
          exact hn (by show (decide _ && decide _) = false; rw [decide_eq_false h1]; rfl)
      | _ => cases e <;> (walk_at "st"; exact hn rfl)
    have c2 : okM 6 a = true → okM 10 b = true → unl g1 g2 = false → ∀ x4 x5 x11, StG t_L_due_c2 { nx := fun _ m => Q .non m, rt := Q } [some (pgD g1), some (pgD g2), some a, some b, x4, x5, none, none, none, none, none, x11] ms := fun ha hb hu x4 x5 x11 => by
      unfold dueD at h
      rw [if_pos ha, if_pos hb, hu, if_neg (by decide)] at h
      obtain ⟨i, rfl⟩ : ∃ i, a = .int i := by cases a <;> first | exact ⟨_, rfl⟩ | cases ha
      obtain ⟨j, rfl⟩ : ∃ i, b = .int i := by cases b <;> first | exact ⟨_, rfl⟩ | cases hb
      have fin : tooM g1 g2 (.int i) (.int j) = false → StG (dSeq (dAsg (dCB cLen (aCons (dOp fIx (dVar 0) (dC (.int 1))) (aNil))) (sName 6)) (dSeq (dAsg (dLc (iSeq (dOp fIx (dVar 1) (dC (.int 2)))) (sTup 3 (sCons (sName 8) (sCons (sName 9) (sCons (sName 10) (sNil))))) (dYes) (dTup (aCons (dOp fAdd (dVar 8) (dVar 6)) (aCons (dOp fAdd (dVar 9) (dVar 6)) (aCons (dVar 10) (aNil))))) [8, 9, 10]) (sName 7)) (dRet (dTup (aCons (dOp fIx (dVar 0) (dC (.int 0))) (aCons (dOp fAdd (dOp fIx (dVar 0) (dC (.int 1))) (dOp fIx (dVar 1) (dC (.int 1)))) (aCons (dOp fAdd (dOp fIx (dVar 0) (dC (.int 2))) (dVar 7)) (aNil)))))))) { nx := fun _ m => Q .non m, rt := Q } [some (pgD g1), some (pgD g2), some (.int i), some (.int j), x4, x5, none, none, none, none, none, x11] ms := fun hm => by
        rw [hm, if_neg (by decide)] at h
        unfold pgD
        walk_at "st"
        rw [List.length_map]
        simp only [wipeD, List.set]
        refine comp_e rwD (fun r => rwD (shR g1.pm.length r)) g2.rs [] _ (by rw [List.length_nil]; omega) (fun r hr P0 z => ?_) ?_
        · unfold rwD at z ⊢
          walk_at "st"
          exact z
        rw [List.nil_append]
        walk_at "st"
        refine ⟨size_ok (by rw [List.length_map, List.length_map]; omega), ?_⟩
        walk_at "st"
        refine ⟨size_ok (by rw [List.length_map, List.length_map]; omega), ?_⟩
        walk_at "st"
        rw [show (g2.rs.map fun r => rwD (shR g1.pm.length r)) = (g2.rs.map (shR g1.pm.length)).map rwD by rw [List.map_map]; rfl, ← List.map_append, ← List.map_append]
        exact h
      unfold t_L_due_c2 pgD
      walk_at "st"
      rw [List.length_map, List.length_map]
      by_cases h1 : i < (g1.pm.length : Int) + (g2.pm.length : Int)
      · refine w_iteT (decide_eq_true h1) ?_
        rw [if_pos (by show (decide _ || _) = true; rw [decide_eq_true h1]; rfl)] at h
        walk_at "st"
        exact h
      · refine w_iteF (decide_eq_false h1) ?_
        walk_at "st"
        rw [List.length_map, List.length_map]
        by_cases h2 : j < (g1.rs.length : Int) + (g2.rs.length : Int)
        · refine w_iteT (decide_eq_true h2) ?_
          rw [if_pos (by show (_ || decide _) = true; rw [decide_eq_true h2, Bool.or_true])] at h
          walk_at "st"
          exact h
        · refine w_iteF (decide_eq_false h2) ?_
          walk_at "s1"
          walk_at "s1"
          exact fin (by show (decide _ || decide _) = false; rw [decide_eq_false h1, decide_eq_false h2]; rfl)
    have c1 : okM 6 a = true → okM 10 b = true → ∀ x4 x5, StG t_L_due_c1 { nx := fun _ m => Q .non m, rt := Q } [some (pgD g1), some (pgD g2), some a, some b, x4, x5, none, none, none, none, none, none] ms := fun ha hb x4 x5 => by
      have hun : unl g1 g2 = true → Q (.str "unlike") ms := fun hu => by
        unfold dueD at h
        rw [if_pos ha, if_pos hb, if_pos hu] at h
        exact h
      unfold t_L_due_c1 pgD
      walk_at "st"
      rw [List.length_map, List.length_map]
      cases hn : (!((g1.nm.length : Int) == (g2.nm.length : Int))) with
      | true =>
        walk_at "st"
        exact hun (by unfold unl; rw [hn]; rfl)
      | false =>
        walk_at "st"
        simp only [wipeD, List.set]
        refine comp_filt_e D.str (fun x => decide (x ∈ g1.pm)) D.str g2.pm [] _ (by rw [List.length_nil]; omega) (fun x hx K L k1 k2 => ?_) ?_
        · walk_at "st"
          refine nm_inV (nm_ok (ok2.pm.ok x hx)) (fun y hy => nm_ok (ok1.pm.ok y hy)) ?_
          walk_at "st"
          cases hb : decide (x ∈ g1.pm) with
          | true =>
            walk_at "st"
            exact k1 hb
          | false =>
            walk_at "st"
            exact k2 hb
        rw [List.nil_append]
        walk_at "st"
        have eu : (!((g2.pm.filter fun x => decide (x ∈ g1.pm)).map D.str).isEmpty) = unl g1 g2 := by
          rw [filt_emptyV, Bool.not_not]
          unfold unl
          rw [hn, Bool.false_or]
        rw [eu]
        cases hu : unl g1 g2 with
        | true =>
          walk_at "st"
          exact hun hu
        | false =>
          walk_at "st"
          exact c2 ha hb hu _ _ _
    walk_at "st"
    refine loop_two ?_
    refine step a 6 ta _ _ _ ea (fun ha => ?_) fun ha => ?_
    · refine step b 10 tb _ _ _ eb (fun hb => ?_) fun hb => ?_
      · walk_at "st"
        exact c1 ha hb _ _
      · unfold dueD at h
        rw [if_pos ha, hb, if_neg (by decide)] at h
        exact h
    · unfold dueD at h
      rw [ha, if_neg (by decide)] at h
      exact h
  · exact h.elim
theorem ok_L_due (T : Tx P K mg) : FnG P w K mg base 1 T.f_L_due T.d_L_due ["_law_near", "_law_far", "_law_most", "_law_least"] (spD K sp_L_due) := by
  exact fnG_of (k := 0) (t := t_L_due) T.F_L_due sc_L_due len_L_due
    (fun cdv A outer s H hr => pds_cons (pds_for (vs := [4, 5]) rfl (pdi_list (pd_lst (pda_cons (pd_tup (pda_cons (pd_var 2) (pda_cons (pd_int) (pda_nil)))) (pda_cons (pd_tup (pda_cons (pd_var 3) (pda_cons (pd_int) (pda_nil)))) (pda_nil))))) (pg_tup rfl (pgs_cons (pg_name (i := 4) sc_L_due.nd rfl (.inl rfl)) (pgs_cons (pg_name (i := 5) sc_L_due.nd rfl (.inl rfl)) (pgs_nil)))) (tg_tup (tgs_cons (tg_name (i := 4) (by decide)) (tgs_cons (tg_name (i := 5) (by decide)) (tgs_nil) (mon_name (i := 5))) (mon_name (i := 4)))) (pds_one (pds_if (pdt_w (pdw_or (pdt_not (pdt_val (pd_isi .int (by decide) rfl T.n_isinstance rfl T.n_int (by decide +kernel) (by decide) (by decide) (pd_var 4)))) (pdw_or (pdt_val (pd_isi .bool (by decide) rfl T.n_isinstance rfl T.n_bool (by decide +kernel) (by decide) (by decide) (pd_var 4))) (pdw_or1 (pdt_not (pdt_chain op_le opd_le op_le opd_le (pd_int) (pd_var 4) (pd_var 5))))))) (pds_one (pds_ret (pd_tup (pda_cons (pd_str) (pda_cons (pd_var 4) (pda_nil)))))) (pds_nil)))) (pds_cons (pds_if (pdt_w (pdw_or (pdt_cmp (op_neF hr.r.units) opd_ne (pd_callB call_len cal_len rfl T.n_len (by decide +kernel) (pda_cons (pd_ix ix_seq opd_ix (pd_var 0) (pd_int)) (pda_nil))) (pd_callB call_len cal_len rfl T.n_len (by decide +kernel) (pda_cons (pd_ix ix_seq opd_ix (pd_var 1) (pd_int)) (pda_nil)))) (pdw_or1 (pdt_cmp (op_neF hr.r.units) opd_ne (pd_lc (own := [("_law_name", 11)]) rfl sc_L_due.nd (pdi_list (pd_ix ix_seq opd_ix (pd_var 1) (pd_int))) (blkOk_by (own := [("_law_name", 11)]) (by kernel_rfl)) (fun _ _ _ _ _ => pg_name (i := 11) sc_L_due.nd rfl (by first | exact .inl rfl | exact .inr rfl)) (tg_name (i := 11) (by decide)) (mon_name (i := 11)) (fun _ _ _ _ _ => pdts_one (pdt_cmp (op_inF hr.r.units) opd_in (pd_var 11) (pd_ix ix_seq opd_ix (pd_var 0) (pd_int)) (by rfl))) (fun _ _ _ _ _ => pd_var 11)) (pd_lst (pda_nil)))))) (pds_one (pds_ret (pd_str))) (pds_nil)) (pds_cons (pds_if (pdt_w (pdw_or (pdt_cmp op_gt opd_gt (pd_op op_addD opd_add (pd_callB call_len cal_len rfl T.n_len (by decide +kernel) (pda_cons (pd_ix ix_seq opd_ix (pd_var 0) (pd_int)) (pda_nil))) (pd_callB call_len cal_len rfl T.n_len (by decide +kernel) (pda_cons (pd_ix ix_seq opd_ix (pd_var 1) (pd_int)) (pda_nil)))) (pd_var 2)) (pdw_or1 (pdt_cmp op_gt opd_gt (pd_op op_addD opd_add (pd_callB call_len cal_len rfl T.n_len (by decide +kernel) (pda_cons (pd_ix ix_seq opd_ix (pd_var 0) (pd_int)) (pda_nil))) (pd_callB call_len cal_len rfl T.n_len (by decide +kernel) (pda_cons (pd_ix ix_seq opd_ix (pd_var 1) (pd_int)) (pda_nil)))) (pd_var 3))))) (pds_one (pds_ret (pd_str))) (pds_nil)) (pds_cons (pds_set (i := 6) sc_L_due.nd rfl (.inr rfl) (pd_callB call_len cal_len rfl T.n_len (by decide +kernel) (pda_cons (pd_ix ix_seq opd_ix (pd_var 0) (pd_int)) (pda_nil)))) (pds_cons (pds_setLc (i := 7) (own := [("_law_start", 8), ("_law_to", 9), ("_law_wants", 10)]) rfl sc_L_due.nd rfl rfl (sw_true rfl rfl rfl (by decide +kernel)) (pdi_list (pd_ix ix_seq opd_ix (pd_var 1) (pd_int))) (blkOk_by (own := [("_law_start", 8), ("_law_to", 9), ("_law_wants", 10)]) (by kernel_rfl)) (fun _ _ _ _ _ => pg_tup rfl (pgs_cons (pg_name (i := 8) sc_L_due.nd rfl (by first | exact .inl rfl | exact .inr rfl)) (pgs_cons (pg_name (i := 9) sc_L_due.nd rfl (by first | exact .inl rfl | exact .inr rfl)) (pgs_cons (pg_name (i := 10) sc_L_due.nd rfl (by first | exact .inl rfl | exact .inr rfl)) (pgs_nil))))) (tg_tup (tgs_cons (tg_name (i := 8) (by decide)) (tgs_cons (tg_name (i := 9) (by decide)) (tgs_cons (tg_name (i := 10) (by decide)) (tgs_nil) (mon_name (i := 10))) (mon_name (i := 9))) (mon_name (i := 8)))) (mon_tup (mon_cons (mon_name (i := 8)) (mon_cons (mon_name (i := 9)) (mon_cons (mon_name (i := 10)) (mon_nil))))) (fun _ _ _ _ _ => pdts_nil) (fun _ _ _ _ _ => pd_tup (pda_cons (pd_op op_addD opd_add (pd_var 8) (pd_var 6)) (pda_cons (pd_op op_addD opd_add (pd_var 9) (pd_var 6)) (pda_cons (pd_var 10) (pda_nil)))))) (pds_one (pds_ret (pd_tup (pda_cons (pd_ix ix_seq opd_ix (pd_var 0) (pd_int)) (pda_cons (pd_op op_addD opd_add (pd_ix ix_seq opd_ix (pd_var 0) (pd_int)) (pd_ix ix_seq opd_ix (pd_var 1) (pd_int))) (pda_cons (pd_op op_addD opd_add (pd_ix ix_seq opd_ix (pd_var 0) (pd_int)) (pd_var 7)) (pda_nil))))))))))))
    sem_L_due
/-- what may be handed in as the most -/
structure Thg (d : D) : Prop where
  any : Any false 100 10 2 d
  gd : Gd d 2100 3
def goodB (g1 g2 : Pg) (a b : D) : Bool := okM 6 a && okM 10 b && !unl g1 g2 && !tooM g1 g2 a b
def sp_L_told : FS := fun ds ms P => match ds with
  | [d1, d2, a, b] => ∃ (g1 g2 : Pg), d1 = pgD g1 ∧ d2 = pgD g2 ∧ PgOk 41 g1 ∧ PgOk 41 g2 ∧ Thg a ∧ Thg b ∧
      (goodB g1 g2 a b = true → ∀ t L M n p q xs, PgL (besG g1 g2) t L n p q xs → Frsh L (M ++ ms) → Frsh M ms → flatM M → P t (L ++ (M ++ ms))) ∧ (goodB g1 g2 a b = false → P (dueD g1 g2 a b) ms)
  | _ => False
theorem len_L_told : ∀ ds ms Q, sp_L_told ds ms Q → ds.length = 4 := fun ds ms Q h => by
  unfold sp_L_told at h
  split at h <;> first | rfl | exact h.elim
def t_L_told : DTS := dSeq (dAsg (dC .non) (sName 4)) (dSeq (dTry0 ml_2 6 4 (dSeq (dAsgZ (fun Z => dCallAZ 0 4 [2, 0, 3, 1] sx_p_beside [] (aNil) (aCons (dVar 1) (aCons (dVar 3) (aCons (dVar 0) (aCons (dVar 2) (aNil))))) Z) (sName 5)) (dSeq (dIfS (dTest (dOp fEq (dTup (aCons (dVar 2) (aCons (dVar 3) (aNil)))) (dTup (aCons (dC (.int 6)) (aCons (dC (.int 10)) (aNil)))))) (dAsgZ (fun Z => dCallAZ 2 0 [0, 1, 2, 3] sx_p_beside [D.int (6), D.int (10)] (aCons (dVar 0) (aCons (dVar 1) (aNil))) (aNil) Z) (sName 5)) (dNext)) (dRet (dIf (dAnd (dTest (dIsi .tuple (dVar 5))) (dTest (dOp fEq (dCB cLen (aCons (dVar 5) (aNil))) (dC (.int 3))))) (dVar 5) (dC (.str "other"))))))) (dSeq (dIfS (dAnd (dTest (dIsE ml_3 (dVar 4))) (dNot (dTest (dIsET ml_4 ml_5 (dVar 4))))) (dRet (dTup (aCons (dC (.str "number")) (aCons (dFld ml_6 "thing" (dVar 4)) (aNil))))) (dNext)) (dSeq (dIfS (dTest (dIsE ml_1 (dVar 4))) (dRet (dOp fIx (dLst (aCons (dC (.str "other")) (aCons (dC (.str "many")) (aNil)))) (dCB cInt1 (aCons (dAndV (dIsE ml_1 (dVar 4)) (dNotV (dIsE ml_0 (dVar 4)))) (aNil))))) (dNext)) (dRet (dOp fIx (dLst (aCons (dC (.str "other")) (aCons (dC (.str "unlike")) (aNil)))) (dCB cInt1 (aCons (dAndV (dIsE ml_4 (dVar 4)) (dNotV (dIsET ml_3 ml_5 (dVar 4)))) (aNil))))))))
theorem sem_L_told : ∀ ds ms Q, sp_L_told ds ms Q → t_L_told { nx := fun _ m => Q .non m, rt := Q } (startD 7 ds) ms := by
  intro ds ms Q h
  unfold sp_L_told at h
  split at h
  · rename_i d1 d2 a b
    obtain ⟨g1, g2, rfl, rfl, ok1, ok2, ta, tb, hg, hn⟩ := h
    simp only [startD]
    unfold t_L_told
    walk_at "st"
    refine ⟨g1, g2, 41, rfl, rfl, ok1, ok2, ta.any.ty, tb.any.ty, ?_⟩
    cases ha : okM 6 a with
    | false =>
      rw [if_neg (by decide)]
      have hn := hn (by unfold goodB; rw [ha]; rfl)
      unfold dueD at hn
      rw [ha, if_neg (by decide)] at hn
      walk_at "st"
      refine ExG.out (w_isET ?_)
      walk_at "st"
      refine w_mIsET (b := false) (by decide +kernel) ?_
      walk_at "st"
      exact hn
    | true =>
    rw [if_pos rfl]
    cases hb : okM 10 b with
    | false =>
      rw [if_neg (by decide)]
      have hn := hn (by unfold goodB; rw [ha, hb]; rfl)
      unfold dueD at hn
      rw [ha, hb, if_pos rfl, if_neg (by decide)] at hn
      walk_at "st"
      refine ExG.out (w_isET ?_)
      walk_at "st"
      refine w_mIsET (b := false) (by decide +kernel) ?_
      walk_at "st"
      exact hn
    | true =>
    rw [if_pos rfl]
    cases hu : unl g1 g2 with
    | true =>
      rw [if_pos rfl]
      have hn := hn (by unfold goodB; rw [ha, hb, hu]; rfl)
      unfold dueD at hn
      rw [ha, hb, hu, if_pos rfl, if_pos rfl, if_pos rfl] at hn
      walk_at "st"
      refine ExG.out (w_isET ?_)
      walk_at "st"
      refine w_mIsET (b := false) (by decide +kernel) ?_
      walk_at "st"
      exact hn
    | false =>
    rw [if_neg (by decide)]
    cases hm : tooM g1 g2 a b with
    | true =>
      rw [if_pos rfl]
      have hn := hn (by unfold goodB; rw [ha, hb, hu, hm]; rfl)
      unfold dueD at hn
      rw [ha, hb, hu, hm, if_pos rfl, if_pos rfl, if_neg (by decide), if_pos rfl] at hn
      walk_at "st"
      exact hn
    | false =>
    rw [if_neg (by decide)]
    have hg := hg (by unfold goodB; rw [ha, hb, hu, hm]; rfl)
    intro t L n p q xs pg fr
    walk_at "st"
    have sh : ShD (.tup [a, b]) := (show Any false 100 10 3 (.tup [a, b]) from .tup (by simp) fun x hx => by
      simp only [List.mem_cons, List.not_mem_nil, or_false] at hx
      rcases hx with rfl | rfl
      · exact ta.any
      · exact tb.any).sh (by decide)
    have s6 : ShD (.tup [.int 6, .int 10]) := (show Any false 100 10 3 (.tup [.int 6, .int 10]) from .tup (by simp) fun x hx => by
      simp only [List.mem_cons, List.not_mem_nil, or_false] at hx
      rcases hx with rfl | rfl
      · exact .int (by unfold Bd; decide)
      · exact .int (by unfold Bd; decide)).sh (by decide)
    refine ⟨sh, s6, ?_⟩
    have h610 : tooM g1 g2 (.int 6) (.int 10) = false := by
      obtain ⟨i, rfl⟩ : ∃ i, a = .int i := by cases a <;> first | exact ⟨_, rfl⟩ | cases ha
      obtain ⟨j, rfl⟩ : ∃ i, b = .int i := by cases b <;> first | exact ⟨_, rfl⟩ | cases hb
      have a6 := of_decide_eq_true (Bool.and_eq_true_iff.mp (show (decide (1 ≤ i) && decide (i ≤ 6)) = true from ha)).2
      have b10 := of_decide_eq_true (Bool.and_eq_true_iff.mp (show (decide (1 ≤ j) && decide (j ≤ 10)) = true from hb)).2
      have hm := Bool.or_eq_false_iff.mp (show (decide (i < (g1.pm.length : Int) + (g2.pm.length : Int)) || decide (j < (g1.rs.length : Int) + (g2.rs.length : Int))) = false from hm)
      have m1 := of_decide_eq_false hm.1
      have m2 := of_decide_eq_false hm.2
      show (decide _ || decide _) = false
      rw [decide_eq_false (by omega : ¬ (6 : Int) < (g1.pm.length : Int) + (g2.pm.length : Int)), decide_eq_false (by omega : ¬ (10 : Int) < (g1.rs.length : Int) + (g2.rs.length : Int))]; rfl
    cases he : eqD (.tup [a, b]) (.tup [.int 6, .int 10]) with
    | true =>
      walk_at "st"
      refine ⟨g1, g2, 41, rfl, rfl, ok1, ok2, ⟨_, rfl⟩, ⟨_, rfl⟩, ?_⟩
      rw [if_pos (by decide), if_pos (by decide), hu, if_neg (by decide), h610, if_neg (by decide)]
      intro t2 L2 n2 p2 q2 xs2 pg2 fr2
      rw [pg2.is]
      walk_at "st"
      rw [← pg2.is]
      exact hg t2 L2 L n2 p2 q2 xs2 pg2 fr2 fr pg.fl
    | false =>
      rw [pg.is]
      walk_at "st"
      rw [← pg.is]
      exact hg t L [] n p q xs pg fr trivial fun _ h => by cases h
  · exact h.elim
theorem ok_L_told (T : Tx P K mg) : FnG P w K mg base 10 T.f_L_told T.d_L_told ["_law_near", "_law_far", "_law_most", "_law_least"] (spD K sp_L_told) := by
  have G_p_beside := ok_p_beside (P := P) (w := w) (base := base) T
  have X_p_beside := okx_p_beside (P := P) (w := w) (base := base) T
  exact fnG_of (k := 9) (t := t_L_told) T.F_L_told sc_L_told len_L_told
    (fun cdv A outer s H hr => pds_cons (pds_set (i := 4) sc_L_told.nd rfl (.inl rfl) (pd_non)) (pds_cons (pds_tryT (i := 6) (j := 4) ⟨rfl, by decide, .inl T.gx_WeighError⟩ ⟨rfl, by decide, .inl T.gx_TooMany⟩ (mlE_b T.x_NoNumber T.x_WeighError T.m_NoNumber_WeighError (mlE_b T.x_Unlike T.x_WeighError T.m_Unlike_WeighError (mlE_b T.x_TooMany T.x_WeighError T.m_TooMany_WeighError (mlE_nil)))) (mlE_b T.x_NoNumber T.x_TooMany T.m_NoNumber_TooMany (mlE_b T.x_Unlike T.x_TooMany T.m_Unlike_TooMany (mlE_b T.x_TooMany T.x_TooMany T.m_TooMany_TooMany (mlE_nil)))) (show mlOr ml_0 ml_1 = ml_2 by decide +kernel) (fun W q xe tk po => px_cons (px_setZ (i := 5) sc_L_told.nd rfl (.inl rfl) (fun Z => pdz_callAK0 tk X_p_beside (hr.mono (by decide)) rfl T.g_p_beside T.F_p_beside.kp T.b_p_beside_0_other_rows_one_places (fun _ => .nil) (pdk_cons (pd_var 1) (pdk_cons (pd_var 3) (pdk_cons (pd_var 0) (pdk_cons (pd_var 2) (pdk_nil))))))) (px_cons (px_if (pdt_cmp (op_eqF hr.r.units) opd_eq (pd_tup (pda_cons (pd_var 2) (pda_cons (pd_var 3) (pda_nil)))) (pd_tup (pda_cons (pd_int) (pda_cons (pd_int) (pda_nil))))) (px_one (px_setZ (i := 5) sc_L_told.nd rfl (.inl rfl) (fun Z => pdz_callA tk X_p_beside (hr.mono (by decide)) rfl T.g_p_beside T.F_p_beside.kp T.b_p_beside_2 (fun _ => (.cons (.int _) (.cons (.int _) .nil))) (pda_cons (pd_var 0) (pda_cons (pd_var 1) (pda_nil)))))) (px_nil)) (px_one (px_of (pds_ret (pd_ifExp (pdt_w (pdw_and (pdt_val (pd_isi .tuple (by decide) rfl T.n_isinstance rfl T.n_tuple (by decide +kernel) (by decide) (by decide) (pd_var 5))) (pdw_and1 (pdt_cmp (op_eqF hr.r.units) opd_eq (pd_callB call_len cal_len rfl T.n_len (by decide +kernel) (pda_cons (pd_var 5) (pda_nil))) (pd_int))))) (pd_var 5) (pd_str))))))) (fun a q => pss_one (ps_set sc_L_told.nd rfl (.inl rfl) (pe_var rfl (.inl rfl)))) sc_L_told.nd rfl rfl (by decide)) (pds_cons (pds_if (pdt_w (pdw_and (pdt_val (pd_isE (cw := .ref T.e_NoNumber) (v2 := .ref T.e_NoNumber) (T.kt_NoNumber) (fun u hu => hu) (pe_glob rfl T.gx_NoNumber rfl) rfl T.n_isinstance (pd_var 4))) (pdw_and1 (pdt_not (pdt_val (pd_isET (w1 := .ref T.e_Unlike) (w2 := .ref T.e_NoProgram) (v1 := .ref T.e_Unlike) (v2 := .ref T.e_NoProgram) (T.kt_Unlike) (T.kt_NoProgram) (fun u hu => hu) (fun u hu => hu) (pe_glob rfl T.gx_Unlike rfl) (pe_glob rfl T.gx_NoProgram rfl) rfl T.n_isinstance (pd_var 4))))))) (pds_one (pds_ret (pd_tup (pda_cons (pd_str) (pda_cons (pd_fld (mlF_b T.x_NoNumber T.f_NoNumber_thing (mlF_nil)) (pd_var 4)) (pda_nil)))))) (pds_nil)) (pds_cons (pds_if (pdt_val (pd_isE (cw := .ref T.e_TooMany) (v2 := .ref T.e_TooMany) (T.kt_TooMany) (fun u hu => hu) (pe_glob rfl T.gx_TooMany rfl) rfl T.n_isinstance (pd_var 4))) (pds_one (pds_ret (pd_ix ix_seq opd_ix (pd_lst (pda_cons (pd_str) (pda_cons (pd_str) (pda_nil)))) (pd_callTy call_int1 cal_int1 rfl T.n_int (by decide +kernel) (pda_cons (pd_and (pd_isE (cw := .type "OverflowError") (v2 := .ty "OverflowError") (T.kt_OverflowError) (fun u hu => hu) (pe_bltn rfl T.n_OverflowError (by decide +kernel) rfl) rfl T.n_isinstance (pd_var 4)) (pd_one (pd_not (pd_isE (cw := .ref T.e_WeighError) (v2 := .ref T.e_WeighError) (T.kt_WeighError) (fun u hu => hu) (pe_glob rfl T.gx_WeighError rfl) rfl T.n_isinstance (pd_var 4))))) (pda_nil)))))) (pds_nil)) (pds_one (pds_ret (pd_ix ix_seq opd_ix (pd_lst (pda_cons (pd_str) (pda_cons (pd_str) (pda_nil)))) (pd_callTy call_int1 cal_int1 rfl T.n_int (by decide +kernel) (pda_cons (pd_and (pd_isE (cw := .ref T.e_Unlike) (v2 := .ref T.e_Unlike) (T.kt_Unlike) (fun u hu => hu) (pe_glob rfl T.gx_Unlike rfl) rfl T.n_isinstance (pd_var 4)) (pd_one (pd_not (pd_isET (w1 := .ref T.e_NoNumber) (w2 := .ref T.e_NoProgram) (v1 := .ref T.e_NoNumber) (v2 := .ref T.e_NoProgram) (T.kt_NoNumber) (T.kt_NoProgram) (fun u hu => hu) (fun u hu => hu) (pe_glob rfl T.gx_NoNumber rfl) (pe_glob rfl T.gx_NoProgram rfl) rfl T.n_isinstance (pd_var 4))))) (pda_nil))))))))))
    sem_L_told
/-- each of these lists with one more -/
def appN : List Addr → MS → MS
  | [], m => m
  | a :: r, m => appN r (put m a ((look m a).getD [] ++ [.non]))
def sp_L_apart : FS := fun ds ms P => match ds with
  | [t] => ∃ (g : Pg) (L ms0 : MS) (n p q : Addr) (xs : List LR) (B : Nat), ms = L ++ ms0 ∧ PgL g t L n p q xs ∧ Frsh L ms0 ∧ PgOk B g ∧ ∀ M, flatM M → Frsh M ms0 → P (.bl true) (M ++ ms0)
  | _ => False
theorem len_L_apart : ∀ ds ms Q, sp_L_apart ds ms Q → ds.length = 1 := fun ds ms Q h => by
  unfold sp_L_apart at h
  split at h <;> first | rfl | exact h.elim
def t_L_apart_c1 : DTS := dSeq (dFrzS 1 (dAsg (dCB cSum (aCons (dLc (iSeq (dVar 1)) (sName 3) (dYes) (dCB cLen (aCons (dVar 3) (aNil))) [3]) (aNil))) (sName 4))) (dSeq (dFor (iEnumD (aCons (dVar 1) (aNil))) (sTup 2 (sCons (sName 5) (sCons (sName 3) (sNil)))) (dSeq (dDrop (dAppend (dVar 3) (aCons (dC .non) (aNil)))) (dIfS (dTest (dOp fNe (dCB cSum (aCons (dLc (iSeq (dVar 1)) (sName 8) (dYes) (dCB cLen (aCons (dVar 8) (aNil))) [8]) (aNil))) (dOp fAdd (dOp fAdd (dVar 4) (dVar 5)) (dC (.int 1))))) (dRet (dC (.bl false))) (dNext)))) (dRet (dC (.bl true))))
def t_L_apart : DTS := dSeq (dAsg (dCB cListM (aCons (dVar 0) (aNil))) (sName 1)) (dSeq (dForE (dOp fIx (dVar 0) (dC (.int 2))) (sName 2) (dSeq (dDrop (dAppend (dVar 1) (aCons (dOp fIx (dVar 2) (dC (.int 2))) (aNil)))) (dFrzS 1 (dAsg (dOp fAddM (dVar 1) (dLcE (dOp fIx (dVar 2) (dC (.int 2))) (sTup 2 (sCons (sName 6) (sCons (sName 7) (sNil)))) (dYes) (dVar 7) [6, 7])) (sName 1))))) (t_L_apart_c1))
theorem loop_lV {α : Type} {g : DG} {tb : DTS} {E : EN} (e : α → D) (all : List α) (I : List α → DS → MS → Prop) : ∀ (xs pre : List α) (ds : DS) (ms : MS), pre ++ xs = all → I pre ds ms →
    (∀ pre x rest ds ms, pre ++ x :: rest = all → I pre ds ms → ∀ N : DS → MS → Prop, (∀ ds' ms', I (pre ++ [x]) ds' ms' → N ds' ms') → g (e x) ds fun ds1 => tb (EN.lp E N) ds1 ms) →
    (∀ ds ms, I all ds ms → E.nx ds ms) → loopD g tb E (xs.map e) ds ms
  | [], pre, ds, ms, ha, h, _, q => q ds ms (by rw [List.append_nil] at ha; rw [← ha]; exact h)
  | x :: r, pre, ds, ms, ha, h, t, q => t pre x r ds ms ha h _ fun ds' ms' h' => loop_lV e all I r (pre ++ [x]) ds' ms' (by rw [List.append_assoc]; exact ha) h' t q
theorem frsh_iff : ∀ {L ms : MS}, Frsh L ms ↔ (L.map (·.1)).Nodup ∧ ∀ q ∈ L, ∀ e ∈ ms, e.1 ≠ q.1
  | [], ms => ⟨fun _ => ⟨List.nodup_nil, fun q h => by cases h⟩, fun _ => trivial⟩
  | q :: L, ms => by
    refine ⟨fun h => ⟨frsh_nd h, frsh_off h⟩, fun ⟨h1, h2⟩ => ?_⟩
    rw [List.map_cons, List.nodup_cons] at h1
    refine ⟨fun e he z => ?_, frsh_iff.mpr ⟨h1.2, fun r hr => h2 r (List.mem_cons_of_mem _ hr)⟩⟩
    rcases List.mem_append.mp he with he | he
    · exact h1.1 (by rw [← z]; exact List.mem_map_of_mem he)
    · exact h2 q List.mem_cons_self e he z
theorem frsh_perm {L M ms : MS} (p : L.Perm M) (h : Frsh L ms) : Frsh M ms := by
  obtain ⟨h1, h2⟩ := frsh_iff.mp h
  exact frsh_iff.mpr ⟨(p.map _).nodup_iff.mp h1, fun q hq => h2 q (p.mem_iff.mpr hq)⟩
theorem drp_in {a : Addr} {ys : List D} : ∀ {L ms : MS}, Frsh L ms → (a, ys) ∈ L → ∃ L', drp (L ++ ms) a = L' ++ ms ∧ ((a, ys) :: L').Perm L
  | [], _, _, h => by cases h
  | (b, zs) :: L, ms, ⟨h1, h2⟩, h => by
    by_cases e : b = a
    · subst e
      rcases List.mem_cons.mp h with z | h
      · cases z
        exact ⟨L, by show drp ((b, ys) :: (L ++ ms)) b = _; unfold drp; rw [if_pos rfl], .refl _⟩
      · exact absurd rfl (h1 (b, ys) (List.mem_append_left _ h))
    · rcases List.mem_cons.mp h with z | h
      · cases z; exact absurd rfl e
      · obtain ⟨L', e1, e2⟩ := drp_in h2 h
        refine ⟨(b, zs) :: L', ?_, (List.Perm.swap _ _ _).trans (e2.cons _)⟩
        show drp ((b, zs) :: (L ++ ms)) a = _
        conv => lhs; unfold drp
        rw [if_neg e, e1]; rfl
theorem app_part : ∀ {as : List Addr} {M ms : MS}, (∀ a ∈ as, a ∈ M.map (·.1)) → Frsh M ms → flatM M → ∃ M', appN as (M ++ ms) = M' ++ ms ∧ Frsh M' ms ∧ flatM M'
  | [], M, ms, _, h, k => ⟨M, rfl, h, k⟩
  | a :: r, M, ms, ha, h, k => by
    have hm := ha a List.mem_cons_self
    obtain ⟨e, he, ea⟩ := List.mem_map.mp hm
    have lk : look (M ++ ms) a = some e.2 := look_in h (by rw [← ea]; exact he)
    have fl : flats (e.2 ++ [.non]) = true := flats_app (k e he) rfl
    obtain ⟨M', e1, e2, e3⟩ := app_part (as := r) (M := put M a (e.2 ++ [.non])) (ms := ms) (fun b hb => by rw [put_adr]; exact ha b (List.mem_cons_of_mem _ hb)) (frsh_map (put_adr a _ M) h) (put_flat k fl)
    refine ⟨M', ?_, e2, e3⟩
    show appN r (put (M ++ ms) a ((look (M ++ ms) a).getD [] ++ [.non])) = _
    rw [lk]
    show appN r (put (M ++ ms) a (e.2 ++ [.non])) = _
    rw [put_app hm]
    exact e1
theorem appN_snoc (a : Addr) : ∀ (as : List Addr) (m : MS), appN (as ++ [a]) m = put (appN as m) a ((look (appN as m) a).getD [] ++ [.non])
  | [], _ => rfl
  | b :: r, m => appN_snoc a r _
theorem appN_off {b : Addr} : ∀ {as : List Addr} {m : MS}, b ∉ as → look (appN as m) b = look m b
  | [], _, _ => rfl
  | a :: r, m, h => by
    show look (appN r _) b = _
    rw [appN_off fun z => h (List.mem_cons_of_mem _ z), look_put_ne fun z => h (by rw [z]; exact List.mem_cons_self)]
theorem appN_in {b : Addr} {ys : List D} : ∀ {as : List Addr} {m : MS}, as.Nodup → b ∈ as → look m b = some ys → look (appN as m) b = some (ys ++ [.non])
  | [], _, _, h, _ => by cases h
  | a :: r, m, nd, h, e => by
    obtain ⟨n1, n2⟩ := List.nodup_cons.mp nd
    show look (appN r _) b = _
    by_cases z : a = b
    · subst z
      rw [appN_off n1, look_put_same e, e]; rfl
    · rcases List.mem_cons.mp h with y | h
      · exact absurd y.symm z
      · exact appN_in n2 h (by rw [look_put_ne z]; exact e)
def lenA (m : MS) (a : Addr) : Int := (((look m a).getD []).length : Nat)
theorem sum_more {m m' : MS} {as : List Addr} (f : Addr → Int) (h : ∀ a ∈ as, lenA m' a = lenA m a + f a) : ((as.map fun a => lenA m' a)).sum = ((as.map fun a => lenA m a)).sum + (as.map f).sum := by
  induction as with
  | nil => rfl
  | cons a r ih =>
    rw [List.map_cons, List.map_cons, List.map_cons, List.sum_cons, List.sum_cons, List.sum_cons, ih fun b hb => h b (List.mem_cons_of_mem _ hb), h a List.mem_cons_self]
    omega
theorem sum_pre {pre rest : List Addr} (nd : (pre ++ rest).Nodup) : (((pre ++ rest).map fun a => if a ∈ pre then (1 : Int) else 0)).sum = pre.length := by
  have h1 : ∀ a ∈ rest, a ∉ pre := fun a ha z => (List.nodup_append.mp nd).2.2 a z a ha rfl
  have e1 : (pre.map fun a => if a ∈ pre then (1 : Int) else 0) = pre.map fun _ => 1 := List.map_congr_left fun a ha => if_pos ha
  have e2 : (rest.map fun a => if a ∈ pre then (1 : Int) else 0) = rest.map fun _ => 0 := List.map_congr_left fun a ha => if_neg (h1 a ha)
  have s1 : ∀ xs : List Addr, ((xs.map fun _ => (1 : Int))).sum = xs.length := fun xs => by
    induction xs with
    | nil => rfl
    | cons x r ih => rw [List.map_cons, List.sum_cons, ih, List.length_cons]; omega
  have s2 : ∀ xs : List Addr, ((xs.map fun _ => (0 : Int))).sum = 0 := fun xs => by
    induction xs with
    | nil => rfl
    | cons x r ih => rw [List.map_cons, List.sum_cons, ih]; rfl
  rw [List.map_append, List.sum_append, e1, e2, s1, s2]; omega
theorem sum_app {m : MS} {pre rest : List Addr} (nd : (pre ++ rest).Nodup) (h : ∀ a ∈ pre ++ rest, ∃ ys, look m a = some ys) : ((pre ++ rest).map fun a => lenA (appN pre m) a).sum = ((pre ++ rest).map fun a => lenA m a).sum + pre.length := by
  rw [sum_more (m := m) (m' := appN pre m) (fun a => if a ∈ pre then 1 else 0) fun a ha => ?_, sum_pre nd]
  obtain ⟨ys, e⟩ := h a ha
  unfold lenA
  by_cases z : a ∈ pre
  · rw [appN_in (List.nodup_append.mp nd).1 z e, e, if_pos z, Option.getD_some, Option.getD_some, List.length_append, List.length_singleton]; omega
  · rw [appN_off z, e, if_neg z]; omega
theorem intsOf_map (is : List Int) : intsOf (is.map D.int) = some is := by
  induction is with
  | nil => rfl
  | cons i r ih => rw [List.map_cons]; show (intsOf (r.map D.int)).map (i :: ·) = _; rw [ih]; rfl
theorem enumD_at {α : Type} (e : α → D) (xs : List α) : enumD (xs.map e) = (xs.zipIdx).map fun p => .tup [.int (p.2 : Int), e p.1] := by
  unfold enumD rng
  refine List.ext_getElem? fun i => ?_
  rw [List.getElem?_zipWith, List.getElem?_map, List.getElem?_map, List.getElem?_map, List.getElem?_zipIdx, List.length_map]
  by_cases h : i < xs.length
  · rw [List.getElem?_range h, List.getElem?_eq_getElem h]
    show some (D.tup [.int (0 + (i : Int)), e xs[i]]) = some (.tup [.int ((0 + i : Nat) : Int), e xs[i]])
    rw [Int.zero_add, Nat.zero_add]
  · rw [List.getElem?_eq_none (by rw [List.length_range]; omega), List.getElem?_eq_none (by omega)]; rfl
theorem zipIdx_split {α : Type} {xs : List α} {pre rest : List (α × Nat)} {x : α × Nat} (h : pre ++ x :: rest = xs.zipIdx) : x.2 = pre.length ∧ xs = pre.map (·.1) ++ x.1 :: rest.map (·.1) := by
  have e1 : (xs.zipIdx).map (·.1) = xs := List.zipIdx_map_fst ..
  have e2 : (xs.zipIdx)[pre.length]? = some x := by rw [← h, List.getElem?_append_right (Nat.le_refl _), Nat.sub_self]; rfl
  refine ⟨?_, ?_⟩
  · rw [List.getElem?_zipIdx] at e2
    cases e3 : xs[pre.length]? with
    | none => rw [e3] at e2; cases e2
    | some y => rw [e3] at e2; cases e2; show 0 + pre.length = _; omega
  · rw [← e1, ← h, List.map_append, List.map_cons]
theorem ne_selfI (z : Int) : (!(z == z)) = false := by simp
/-- the second half of apart: each of these lists with one more -/
theorem apart_rest {Q : D → MS → Prop} {as : List Addr} {m : MS} {x0 x2 x3 x4 x5 x6 x7 x8 : Option D} (nd : as.Nodup) (hl : as.length ≤ 1000) (hy : ∀ a ∈ as, ∃ ys, look m a = some ys ∧ ys.length ≤ 1000) (h : Q (.bl true) (appN as m)) {s : Addr} {ms : MS} (lk : look ms s = some (as.map fun a => D.opq (.ref a))) (dr : drp ms s = m) :
    t_L_apart_c1 { nx := fun _ m => Q .non m, rt := Q } [x0, some (.opq (.ref s)), x2, x3, x4, x5, x6, x7, x8] ms := by
  unfold t_L_apart_c1
  refine w_seq ?_
  refine StG.out (w_frzS rfl lk rfl dr ?_)
  walk_at "st"
  simp only [wipeD, List.set]
  have le : ∀ a ∈ as, ∃ ys, look m a = some ys := fun a ha => (hy a ha).elim fun ys h => ⟨ys, h.1⟩
  refine comp_e (fun a => D.opq (.ref a)) (fun a => D.int (lenA m a)) as [] _ (by rw [List.length_nil]; omega) (fun a ha P0 q => ?_) ?_
  · obtain ⟨ys, e, _⟩ := hy a ha
    walk_at "st"
    refine CbG.out (w_len_o e ?_)
    have : lenA m a = (ys.length : Int) := by unfold lenA; rw [e]; rfl
    rw [this] at q
    exact q
  rw [List.nil_append, show (as.map fun a => D.int (lenA m a)) = (as.map fun a => lenA m a).map D.int by rw [List.map_map]; rfl]
  walk_at "st"
  refine w_sum (intsOf_map _) ?_
  walk_at "st"
  rw [enumD_at]
  refine loop_lV (fun p : Addr × Nat => D.tup [.int (p.2 : Int), .opq (.ref p.1)]) as.zipIdx (fun pre ds m' => m' = appN (pre.map (·.1)) m ∧ ∃ x2 x3 x5 x6 x7 x8, ds = [x0, some (.lst (as.map fun a => D.opq (.ref a))), x2, x3, some (.int (as.map fun a => lenA m a).sum), x5, x6, x7, x8]) as.zipIdx [] _ _ rfl ⟨rfl, _, _, _, _, _, _, rfl⟩ ?_ ?_
  · rintro pre ⟨a, i⟩ rest ds m' hsplit ⟨rfl, y2, y3, y5, y6, y7, y8, rfl⟩ N hN
    obtain ⟨rfl, ea⟩ := zipIdx_split hsplit
    dsimp only at ea ⊢
    have hin : a ∈ as := by rw [ea]; simp
    have ea2 : as = (pre ++ [(a, pre.length)]).map (·.1) ++ rest.map (·.1) := by rw [List.map_append, List.append_assoc]; exact ea
    have hn : a ∉ pre.map (·.1) := fun z => by
      rw [ea] at nd
      exact (List.nodup_append.mp nd).2.2 a z a List.mem_cons_self rfl
    obtain ⟨ys, e, l⟩ := hy a hin
    have e2 : look (appN (pre.map (·.1)) m) a = some ys := by rw [appN_off hn]; exact e
    walk_at "st"
    refine ⟨Nat.lt_of_lt_of_le (by omega : ys.length < 2000) (by decide), ?_⟩
    walk_at "st"
    have em : put (appN (pre.map (·.1)) m) a (ys ++ [.non]) = appN ((pre ++ [(a, pre.length)]).map (·.1)) m := by
      rw [List.map_append, List.map_singleton, appN_snoc, e2]; rfl
    rw [em]
    have lk3 : ∀ b ∈ as, ∃ zs, look (appN ((pre ++ [(a, pre.length)]).map (·.1)) m) b = some zs := fun b hb => by
      obtain ⟨zs, ez⟩ := le b hb
      by_cases hz : b ∈ (pre ++ [(a, pre.length)]).map (·.1)
      · exact ⟨_, appN_in (by rw [ea2] at nd; exact (List.nodup_append.mp nd).1) hz ez⟩
      · exact ⟨_, (appN_off hz).trans ez⟩
    simp only [wipeD, List.set]
    refine comp_e (fun a => D.opq (.ref a)) (fun b => D.int (lenA (appN ((pre ++ [(a, pre.length)]).map (·.1)) m) b)) as [] _ (by rw [List.length_nil]; omega) (fun b hb P0 q => ?_) ?_
    · obtain ⟨zs, ez⟩ := lk3 b hb
      walk_at "st"
      refine CbG.out (w_len_o ez ?_)
      have : lenA (appN ((pre ++ [(a, pre.length)]).map (·.1)) m) b = (zs.length : Int) := by unfold lenA; rw [ez]; rfl
      rw [this] at q
      exact q
    rw [List.nil_append, show (as.map fun b => D.int (lenA (appN ((pre ++ [(a, pre.length)]).map (·.1)) m) b)) = (as.map fun b => lenA (appN ((pre ++ [(a, pre.length)]).map (·.1)) m) b).map D.int by rw [List.map_map]; rfl]
    walk_at "st"
    refine w_sum (intsOf_map _) ?_
    walk_at "st"
    have es : (as.map fun b => lenA (appN ((pre ++ [(a, pre.length)]).map (·.1)) m) b).sum = (as.map fun a => lenA m a).sum + (pre.length : Int) + 1 := by
      have := sum_app (m := m) (pre := (pre ++ [(a, pre.length)]).map (·.1)) (rest := rest.map (·.1)) (by rw [← ea2]; exact nd) (by rw [← ea2]; exact le)
      rw [← ea2] at this
      rw [this, List.length_map, List.length_append, List.length_singleton]
      omega
    rw [es]
    rw [ne_selfI]
    walk_at "st"
    exact hN _ _ ⟨rfl, _, _, _, _, _, _, rfl⟩
  · rintro ds m' ⟨rfl, y2, y3, y5, y6, y7, y8, rfl⟩
    walk_at "st"
    rw [List.zipIdx_map_fst]
    exact h
theorem sem_L_apart : ∀ ds ms Q, sp_L_apart ds ms Q → t_L_apart { nx := fun _ m => Q .non m, rt := Q } (startD 9 ds) ms := by
  intro ds ms Q h
  unfold sp_L_apart at h
  split at h
  · obtain ⟨g, L, ms0, n, p, q, xs, B, rfl, pg, fr0, ok, h⟩ := h
    have xl : xs.length ≤ 10 := by have := congrArg List.length pg.rs; rw [List.length_map] at this; have := ok.rl; omega
    have bl : ∀ x ∈ xs, x.bs.length ≤ 12 := fun x hx => by
      have := (ok.ro x.rw (by rw [← pg.rs]; exact List.mem_map_of_mem hx)).wl
      unfold LR.rw at this
      rwa [List.length_map] at this
    obtain ⟨Lq, eq1, pq⟩ := drp_in fr0 pg.mq
    simp only [startD]
    rw [pg.is]
    unfold t_L_apart
    walk_at "st"
    intro s hs
    walk_at "st"
    refine (show dForE _ _ _ _ _ _ from w_forE ?_)
    walk_at "st"
    have qs : q ≠ s := fun z => hs (q, xs.map lrD) (List.mem_append_left _ pg.mq) z
    refine w_mForE (xs := xs.map lrD) (m' := (s, [D.opq (.ref n), .opq (.ref p), .opq (.ref q)]) :: (Lq ++ ms0)) ?_ ?_ ?_
    · show (if s = q then _ else look (L ++ ms0) q) = _
      rw [if_neg qs.symm]; exact look_in fr0 pg.mq
    · conv => lhs; unfold drp
      rw [if_neg qs.symm, eq1]
    have frq : Frsh Lq ms0 := (frsh_perm pq.symm fr0).2
    have inq : ∀ e ∈ L, e.1 ≠ q → e ∈ Lq := fun e he hne => by
      rcases List.mem_cons.mp (pq.mem_iff.mpr he) with z | z
      · rw [z] at hne; exact absurd rfl hne
      · exact z
    have nd := pg.nd
    have rowIn : ∀ x ∈ xs, (x.a, x.bs.map lwD) ∈ Lq := fun x hx => inq _ (pg.mr x hx _ List.mem_cons_self) fun z => by
      have z : x.a = q := z
      have nd2 := (List.nodup_cons.mp (List.nodup_cons.mp (List.nodup_cons.mp nd).2).2).1
      exact nd2 (by rw [← z]; exact List.mem_flatMap.mpr ⟨x, hx, List.mem_cons_self⟩)
    refine loop_lV lrD xs (fun pre ds m => ∃ (s' : Addr) (M : MS), m = (s', (n :: p :: q :: pre.flatMap adrs).map fun a => D.opq (.ref a)) :: (M ++ ms0) ∧ M.Perm Lq ∧ (∀ e ∈ M ++ ms0, e.1 ≠ s') ∧ ∃ x2 x3 x4 x5 x6 x7 x8, ds = [some (.tup [.opq (.ref n), .opq (.ref p), .opq (.ref q)]), some (.opq (.ref s')), x2, x3, x4, x5, x6, x7, x8]) xs [] _ _ rfl
      ⟨s, Lq, rfl, .refl _, fun e he => hs e (by
        rcases List.mem_append.mp he with he | he
        · exact List.mem_append_left _ (pq.mem_iff.mp (List.mem_cons_of_mem _ he))
        · exact List.mem_append_right _ he), _, _, _, _, _, _, _, rfl⟩ ?_ ?_
    · rintro pre x rest ds m hsplit ⟨s1, M, rfl, pM, off, y2, y3, y4, y5, y6, y7, y8, rfl⟩ N hN
      have hx : x ∈ xs := by rw [← hsplit]; simp
      have hb := bl x hx
      have frM : Frsh M ms0 := frsh_perm pM.symm frq
      have inM : (x.a, x.bs.map lwD) ∈ M := pM.mem_iff.mpr (rowIn x hx)
      obtain ⟨Mx, eM, pMx⟩ := drp_in frM inM
      have bound : (pre.flatMap adrs).length ≤ 200 := by
        have : ∀ ys : List LR, (∀ y ∈ ys, y.bs.length ≤ 12) → (ys.flatMap adrs).length ≤ 13 * ys.length := fun ys => by
          induction ys with
          | nil => exact fun _ => Nat.le_refl _
          | cons y r ih =>
            intro hy
            rw [List.flatMap_cons, List.length_append, List.length_cons]
            have := ih fun z hz => hy z (List.mem_cons_of_mem _ hz)
            have := hy y List.mem_cons_self
            have : (adrs y).length = y.bs.length + 1 := by unfold adrs; rw [List.length_cons, List.length_map]
            omega
        have h1 := this pre fun y hy => bl y (by rw [← hsplit]; exact List.mem_append_left _ hy)
        have := congrArg List.length hsplit
        rw [List.length_append] at this
        omega
      unfold lrD
      walk_at "st"
      refine ⟨Nat.lt_of_lt_of_le (show ((n :: p :: q :: pre.flatMap adrs).map fun a => D.opq (.ref a)).length < 1000 by rw [List.length_map, List.length_cons, List.length_cons, List.length_cons]; omega) (by decide), ?_⟩
      walk_at "st"
      refine (show dLcE _ _ _ _ _ _ _ _ from w_lcE ?_)
      walk_at "st"
      refine w_mLcE (look_in frM inM) eM ?_
      simp only [wipeD, List.set]
      refine comp_e lwD (fun b => D.opq (.ref b.a)) x.bs [] _ (by rw [List.length_nil]; omega) (fun b hb P0 q0 => ?_) ?_
      · unfold lwD
        walk_at "st"
        exact q0
      rw [List.nil_append]
      intro _
      walk_at "st"
      refine ⟨size_ok (by rw [List.length_append, List.length_map, List.length_map, List.length_cons, List.length_cons, List.length_cons, List.length_singleton]; omega), fun s2 hs2 => ?_⟩
      walk_at "st"
      refine hN _ _ ⟨s2, (x.a, x.bs.map lwD) :: Mx, ?_, pMx.trans pM, fun e he => hs2 e he, _, _, _, _, _, _, _, rfl⟩
      rw [List.flatMap_append, List.flatMap_singleton]
      show (s2, _) :: _ = (s2, _) :: _
      rw [show (n :: p :: q :: (pre.flatMap adrs ++ adrs x)) = (n :: p :: q :: pre.flatMap adrs) ++ [x.a] ++ x.bs.map LW.a by unfold adrs; simp, List.map_append, List.map_append, List.map_map]
      rfl
    · rintro ds m ⟨s1, M, rfl, pM, off, y2, y3, y4, y5, y6, y7, y8, rfl⟩
      change (∀ e ∈ ((s1, (n :: p :: q :: xs.flatMap adrs).map fun a => D.opq (.ref a)) :: (M ++ ms0) : MS), e.1 ≠ q) → NxG (EN.wn { nx := fun _ m => Q .non m, rt := Q } (StG t_L_apart_c1 { nx := fun _ m => Q .non m, rt := Q })) _ ((q, xs.map lrD) :: (s1, _) :: (M ++ ms0))
      intro off2
      have sq : s1 ≠ q := off2 _ List.mem_cons_self
      have pL : ((q, xs.map lrD) :: M).Perm L := (pM.cons _).trans pq
      have frL : Frsh ((q, xs.map lrD) :: M) ms0 := frsh_perm pL.symm fr0
      have flL : flatM ((q, xs.map lrD) :: M) := fun e he => pg.fl e (pL.mem_iff.mp he)
      have memL : ∀ a ∈ n :: p :: q :: xs.flatMap adrs, ∃ ys, (a, ys) ∈ L ∧ ys.length ≤ 1000 := fun a ha => by
        simp only [List.mem_cons] at ha
        rcases ha with rfl | rfl | rfl | ha
        · exact ⟨_, pg.mn, by rw [List.length_map]; have := ok.nm.l2; omega⟩
        · exact ⟨_, pg.mp, by rw [List.length_map]; have := ok.pm.l2; omega⟩
        · exact ⟨_, pg.mq, by rw [List.length_map]; omega⟩
        · obtain ⟨x, hx, ha⟩ := List.mem_flatMap.mp ha
          have hb := bl x hx
          unfold adrs at ha
          rcases List.mem_cons.mp ha with rfl | ha
          · exact ⟨_, pg.mr x hx _ List.mem_cons_self, by rw [List.length_map]; omega⟩
          · obtain ⟨w, hw, rfl⟩ := List.mem_map.mp ha
            refine ⟨_, pg.mr x hx (lwM w) (List.mem_cons_of_mem _ (List.mem_reverse.mpr (List.mem_map_of_mem hw))), ?_⟩
            have := ((ok.ro x.rw (by rw [← pg.rs]; exact List.mem_map_of_mem hx)).wo w.w (List.mem_map_of_mem hw)).ln
            have := ok.nm.l2
            rw [List.length_map]
            show w.w.fs.length + 1 ≤ 1000
            omega
      obtain ⟨M', e1, f1, fl1⟩ := app_part (as := n :: p :: q :: xs.flatMap adrs) (M := (q, xs.map lrD) :: M) (ms := ms0) (fun a ha => by
        obtain ⟨ys, h, _⟩ := memL a ha
        exact List.mem_map_of_mem (f := (·.1)) (pL.mem_iff.mpr h)) frL flL
      have bound : (xs.flatMap adrs).length ≤ 200 := by
        have : ∀ ys : List LR, (∀ y ∈ ys, y.bs.length ≤ 12) → (ys.flatMap adrs).length ≤ 13 * ys.length := fun ys => by
          induction ys with
          | nil => exact fun _ => Nat.le_refl _
          | cons y r ih =>
            intro hy
            rw [List.flatMap_cons, List.length_append, List.length_cons]
            have := ih fun z hz => hy z (List.mem_cons_of_mem _ hz)
            have := hy y List.mem_cons_self
            have : (adrs y).length = y.bs.length + 1 := by unfold adrs; rw [List.length_cons, List.length_map]
            omega
        have := this xs bl
        omega
      walk_at "s1"
      refine apart_rest (as := n :: p :: q :: xs.flatMap adrs) (m := ((q, xs.map lrD) :: M) ++ ms0) (s := s1) pg.nd (by rw [List.length_cons, List.length_cons, List.length_cons]; omega) (fun a ha => ?_) ?_ ?_ ?_
      · obtain ⟨ys, h, l⟩ := memL a ha
        exact ⟨ys, look_in frL (pL.mem_iff.mpr h), l⟩
      · rw [e1]; exact h M' fl1 f1
      · show (if q = s1 then _ else (if s1 = s1 then _ else _)) = _
        rw [if_neg sq.symm, if_pos rfl]
      · conv => lhs; unfold drp; unfold drp
        rw [if_neg sq.symm, if_pos rfl]
        rfl
  · exact h.elim
theorem ok_L_apart (T : Tx P K mg) : FnG P w K mg base 1 T.f_L_apart T.d_L_apart ["_law_told_here"] (spD K sp_L_apart) := by
  exact fnG_of (k := 0) (t := t_L_apart) T.F_L_apart sc_L_apart len_L_apart
    (fun cdv A outer s H hr => pds_cons (pds_set (i := 1) sc_L_apart.nd rfl (.inl rfl) (pd_callTy call_list_of cal_listM rfl T.n_list (by decide +kernel) (pda_cons (pd_var 0) (pda_nil)))) (pds_cons (pds_forE (us := [2]) rfl (pd_ix ix_seq opd_ix (pd_var 0) (pd_int)) (pg_name (i := 2) sc_L_apart.nd rfl (.inl rfl)) (tg_name (i := 2) (by decide)) (pds_cons (pds_expr (pd_append (pd_var 1) (pda_cons (pd_ix ix_seq opd_ix (pd_var 2) (pd_int)) (pda_nil)))) (pds_one (pds_frz (i := 1) (pds_set (i := 1) sc_L_apart.nd rfl (.inl rfl) (pd_op op_addD opd_addM (pd_var 1) (pd_lcE (own := [("_law_word", 6), ("_law_line_here", 7)]) rfl sc_L_apart.nd (pd_ix ix_seq opd_ix (pd_var 2) (pd_int)) (blkOk_by (own := [("_law_word", 6), ("_law_line_here", 7)]) (by kernel_rfl)) (fun _ _ _ _ _ => pg_tup rfl (pgs_cons (pg_name (i := 6) sc_L_apart.nd rfl (by first | exact .inl rfl | exact .inr rfl)) (pgs_cons (pg_name (i := 7) sc_L_apart.nd rfl (by first | exact .inl rfl | exact .inr rfl)) (pgs_nil)))) (tg_tup (tgs_cons (tg_name (i := 6) (by decide)) (tgs_cons (tg_name (i := 7) (by decide)) (tgs_nil) (mon_name (i := 7))) (mon_name (i := 6)))) (mon_tup (mon_cons (mon_name (i := 6)) (mon_cons (mon_name (i := 7)) (mon_nil)))) (fun _ _ _ _ _ => pdts_nil) (fun _ _ _ _ _ => pd_var 7)))))))) (pds_cons (pds_frz (i := 1) (pds_set (i := 4) sc_L_apart.nd rfl (.inl rfl) (pd_callB (cr_sum rfl) cal_sum rfl T.n_sum (by decide +kernel) (pda_cons (pd_lc (own := [("_law_piece", 3)]) rfl sc_L_apart.nd (pdi_list (pd_var 1)) (blkOk_by (own := [("_law_piece", 3)]) (by kernel_rfl)) (fun _ _ _ _ _ => pg_name (i := 3) sc_L_apart.nd rfl (by first | exact .inl rfl | exact .inr rfl)) (tg_name (i := 3) (by decide)) (mon_name (i := 3)) (fun _ _ _ _ _ => pdts_nil) (fun _ _ _ _ _ => pd_callB call_len cal_len rfl T.n_len (by decide +kernel) (pda_cons (pd_var 3) (pda_nil)))) (pda_nil))))) (pds_cons (pds_for (vs := [5, 3]) rfl (pdi_enum rfl T.n_enumerate (pda_cons (pd_var 1) (pda_nil))) (pg_tup rfl (pgs_cons (pg_name (i := 5) sc_L_apart.nd rfl (.inl rfl)) (pgs_cons (pg_name (i := 3) sc_L_apart.nd rfl (.inl rfl)) (pgs_nil)))) (tg_tup (tgs_cons (tg_name (i := 5) (by decide)) (tgs_cons (tg_name (i := 3) (by decide)) (tgs_nil) (mon_name (i := 3))) (mon_name (i := 5)))) (pds_cons (pds_expr (pd_append (pd_var 3) (pda_cons (pd_non) (pda_nil)))) (pds_one (pds_if (pdt_cmp (op_neF hr.r.units) opd_ne (pd_callB (cr_sum rfl) cal_sum rfl T.n_sum (by decide +kernel) (pda_cons (pd_lc (own := [("_law_each", 8)]) rfl sc_L_apart.nd (pdi_list (pd_var 1)) (blkOk_by (own := [("_law_each", 8)]) (by kernel_rfl)) (fun _ _ _ _ _ => pg_name (i := 8) sc_L_apart.nd rfl (by first | exact .inl rfl | exact .inr rfl)) (tg_name (i := 8) (by decide)) (mon_name (i := 8)) (fun _ _ _ _ _ => pdts_nil) (fun _ _ _ _ _ => pd_callB call_len cal_len rfl T.n_len (by decide +kernel) (pda_cons (pd_var 8) (pda_nil)))) (pda_nil))) (pd_op op_addD opd_add (pd_op op_addD opd_add (pd_var 4) (pd_var 5)) (pd_int))) (pds_one (pds_ret (pd_bl))) (pds_nil))))) (pds_one (pds_ret (pd_bl)))))))
    sem_L_apart
def sp_L_pair : FS := fun ds ms P => match ds with
  | [.opq (.ref p)] => PoolAt ms p ∧ flatM ms ∧ ∀ g1 g2 : Pg, PgOk 41 g1 → PgOk 41 g2 → ∀ ms', PoolAt ms' p → flatM ms' → P (.tup [pgD g1, pgD g2]) ms'
  | _ => False
theorem len_L_pair : ∀ ds ms Q, sp_L_pair ds ms Q → ds.length = 1 := fun ds ms Q h => by
  unfold sp_L_pair at h
  split at h <;> first | rfl | exact h.elim
def t_L_pair_c2 : DTS := dSeq (dIfS (dTest (dOp fGt (dCall 2 0 [0, 1] sp_L_take (aCons (dVar 0) (aCons (dC (.int 4)) (aNil))) (aNil)) (dC (.int 0)))) (dAsg (dTup (aCons (dCB cList (aCons (dOp fIx (dVar 1) (dC (.int 0))) (aNil))) (aCons (dOp fIx (dVar 2) (dC (.int 1))) (aCons (dLc (iSeq (dOp fIx (dVar 2) (dC (.int 2)))) (sTup 3 (sCons (sName 6) (sCons (sName 7) (sCons (sName 8) (sNil))))) (dYes) (dTup (aCons (dVar 6) (aCons (dVar 7) (aCons (dLst (aNil)) (aNil))))) [6, 7, 8]) (aNil))))) (sName 2)) (dNext)) (dRet (dTup (aCons (dVar 1) (aCons (dVar 2) (aNil)))))
def t_L_pair_c1 : DTS := dSeq (dViewS 1 (dIfS (dTest (dOp fGt (dCall 2 0 [0, 1] sp_L_take (aCons (dVar 0) (aCons (dC (.int 4)) (aNil))) (aNil)) (dC (.int 0)))) (dSeq (dAsg (dLc (iSeq (dOp fIx (dVar 2) (dC (.int 1)))) (sName 4) (dYes) (dOp fAdd (dSl (dVar 4) (oNone) (oSome (dC (.int 5)))) (dC (.str "a"))) [4]) (sName 3)) (dSeq (dAsg (dLc (iEnumD (aCons (dVar 3) (aNil))) (sTup 2 (sCons (sName 5) (sCons (sName 4) (sNil)))) (dYes) (dOp fAdd (dOp fAdd (dOp fIx (dLst (aCons (dC (.str "a")) (aCons (dC (.str "b")) (aCons (dC (.str "c")) (aCons (dC (.str "d")) (aNil)))))) (dVar 5)) (dSl (dVar 4) (oNone) (oSome (dC (.int 4))))) (dC (.str "a"))) [5, 4]) (sName 3)) (dAsg (dTup (aCons (dOp fIx (dVar 2) (dC (.int 0))) (aCons (dVar 3) (aCons (dOp fIx (dVar 2) (dC (.int 2))) (aNil))))) (sName 2)))) (dNext))) (t_L_pair_c2)
def t_L_pair : DTS := dSeq (dAsg (dCall 3 0 [0, 1, 2] sp_L_program (aCons (dVar 0) (aCons (dC (.int 4)) (aCons (dC (.int 6)) (aNil)))) (aNil)) (sName 1)) (dSeq (dAsg (dCall 3 0 [0, 1, 2] sp_L_program (aCons (dVar 0) (aCons (dC (.int 4)) (aCons (dC (.int 6)) (aNil)))) (aNil)) (sName 2)) (dSeq (dViewS 2 (dIfS (dAnd (dTest (dChain fLt fLt (dC (.int 0)) (dCB cLen (aCons (dOp fIx (dVar 1) (dC (.int 2))) (aNil))) (dC (.int 4)))) (dTest (dOp fEq (dCall 2 0 [0, 1] sp_L_take (aCons (dVar 0) (aCons (dC (.int 2)) (aNil))) (aNil)) (dC (.int 0))))) (dDrop (dAppend (dOp fIx (dVar 1) (dC (.int 2))) (aCons (dOp fIx (dOp fIx (dVar 1) (dC (.int 2))) (dC (.int 0))) (aNil)))) (dNext))) (t_L_pair_c1)))
open SX TL in
theorem cutS_to (x : Str) (n : Nat) : cutS x none (some (n : Int)) = S (x.cps.toList.take n) := by
  have e : x = S x.cps.toList := ext_tl rfl
  conv => lhs; rw [e]
  rw [cutS_S, cutL_to _ _ (Int.natCast_nonneg _), Int.toNat_natCast]
open SX in
theorem S_toL (l : List Nat) : (S l).cps.toList = l := rfl
open SX in
/-- a name made shorter, with an a behind -/
def nm5 (x : Str) : Str := S (x.cps.toList.take 5 ++ [97])
open SX in
def nm4 (c : Nat) (x : Str) : Str := S (c :: (x.cps.toList.take 4 ++ [97]))
theorem good_l {x : Str} (h : goodNm x = true) : 1 ≤ x.cps.toList.length ∧ x.cps.toList.length ≤ 6 ∧ x.cps.toList.all (fun c => decide (97 ≤ c) && decide (c < 123)) = true := by
  unfold goodNm at h
  rw [Bool.and_eq_true_iff, Bool.and_eq_true_iff] at h
  exact ⟨of_decide_eq_true h.1.1, of_decide_eq_true h.1.2, h.2⟩
open SX in
theorem good_S {l : List Nat} (h1 : 1 ≤ l.length) (h6 : l.length ≤ 6) (h : l.all (fun c => decide (97 ≤ c) && decide (c < 123)) = true) : goodNm (S l) = true := by
  unfold goodNm
  rw [S_toL, h, decide_eq_true (by rw [S_len]; exact h1), decide_eq_true (by rw [S_len]; exact h6)]; rfl
theorem all_take {l : List Nat} {p : Nat → Bool} (n : Nat) (h : l.all p = true) : (l.take n).all p = true := List.all_eq_true.mpr fun x hx => List.all_eq_true.mp h x (List.mem_of_mem_take hx)
theorem good5 {x : Str} (h : goodNm x = true) : goodNm (nm5 x) = true := by
  obtain ⟨h1, h6, ha⟩ := good_l h
  refine good_S (by rw [List.length_append, List.length_singleton]; omega) (by rw [List.length_append, List.length_singleton, List.length_take]; omega) ?_
  rw [List.all_append, all_take 5 ha]; rfl
theorem good4 {x : Str} {c : Nat} (h : goodNm x = true) (hc : 97 ≤ c ∧ c < 123) : goodNm (nm4 c x) = true := by
  obtain ⟨h1, h6, ha⟩ := good_l h
  refine good_S (by rw [List.length_cons]; omega) (by rw [List.length_cons, List.length_append, List.length_singleton, List.length_take]; omega) ?_
  rw [List.all_cons, List.all_append, all_take 4 ha, decide_eq_true hc.1, decide_eq_true hc.2]; rfl
/-- the names that are called anew -/
def calledL (xs : List Str) : List Str := ([97, 98, 99, 100].zip (xs.map nm5)).map fun p => nm4 p.1 p.2
theorem called_ok {n : Nat} {xs : List Str} (h : NmOk n xs) (h4 : xs.length ≤ 4) (hn : n ≤ 6) : NmOk 6 (calledL xs) ∧ (calledL xs).length = xs.length := by
  have el : (calledL xs).length = xs.length := by unfold calledL; rw [List.length_map, List.length_zip, List.length_map]; show min 4 xs.length = _; omega
  have hd : (calledL xs).map (fun x => x.cps.toList.head?) = ([97, 98, 99, 100].take xs.length).map some := by
    match xs, h4 with
    | [], _ => rfl
    | [_], _ => rfl
    | [_, _], _ => rfl
    | [_, _, _], _ => rfl
    | [_, _, _, _], _ => rfl
    | _ :: _ :: _ :: _ :: _ :: _, h => simp at h
  refine ⟨⟨by rw [el]; exact h.l1, by rw [el]; have := h.l2; omega, ?_, fun x hx => ?_⟩, el⟩
  · have nd : ((calledL xs).map fun x => x.cps.toList.head?).Nodup := by
      rw [hd]
      have hl := h.l1
      match xs.length, h4, hl with
      | 1, _, _ => decide
      | 2, _, _ => decide
      | 3, _, _ => decide
      | 4, _, _ => decide
    exact (List.pairwise_map.mp nd).imp fun h e => h (congrArg (fun x : Str => x.cps.toList.head?) e)
  · unfold calledL at hx
    obtain ⟨⟨c, y⟩, hp, rfl⟩ := List.mem_map.mp hx
    have hc := (List.of_mem_zip hp).1
    obtain ⟨z, hz, rfl⟩ := List.mem_map.mp (List.of_mem_zip hp).2
    exact good4 (good5 (h.ok z hz)) (by simp only [List.mem_cons, List.not_mem_nil, or_false] at hc; omega)
open TL NumText in
theorem nm5_is (x : Str) : SX.S (x.cps.toList.take 5) ++ Str.ofString "a" = nm5 x := by rw [lit "a" [97], S_app]; rfl
open TL NumText in
theorem nm4_is (c : Nat) (y : Str) : SX.S ([c] ++ y.cps.toList.take 4) ++ Str.ofString "a" = nm4 c y := by rw [lit "a" [97], S_app]; rfl
theorem called_is {xs : List Str} (h : xs.length ≤ 4) : ((xs.map nm5).zipIdx.map fun p => D.str (nm4 ([97, 98, 99, 100].getD p.2 0) p.1)) = (calledL xs).map D.str := by
  match xs, h with
  | [], _ => rfl
  | [_], _ => rfl
  | [_, _], _ => rfl
  | [_, _, _], _ => rfl
  | [_, _, _, _], _ => rfl
  | _ :: _ :: _ :: _ :: _ :: _, h => simp at h
open TL NumText in
theorem sem_L_pair : ∀ ds ms Q, sp_L_pair ds ms Q → t_L_pair { nx := fun _ m => Q .non m, rt := Q } (startD 9 ds) ms := by
  intro ds ms Q h
  unfold sp_L_pair at h
  split at h
  · rename_i p
    obtain ⟨hp, fm, h⟩ := h
    simp only [startD]
    unfold t_L_pair
    walk_at "st"
    refine ⟨hp, by decide, by decide, by decide, by decide, fun g1 q1 m1 ok1 l1 k1 hne1 hq1 p1 c1 => ?_⟩
    walk_at "st"
    refine ⟨p1.cons hne1, by decide, by decide, by decide, by decide, fun g2 q2 mA ok2 l2 k2 hne2 hq2 pA cA => ?_⟩
    obtain ⟨m2, rfl, c2⟩ := chg_cons hne1 cA
    have p2 := pA.tail hne1
    have fm2 := flatM_chg fm (c1.trans c2)
    walk_at "st"
    have rest : ∀ (g1 g2 : Pg) (m : MS) (x3 x4 x5 x6 x7 x8 : Option D), PgOk 41 g1 → PgOk 41 g2 → PoolAt m p → flatM m → StG t_L_pair_c2 { nx := fun _ m => Q .non m, rt := Q } [some (.opq (.ref p)), some (pgD g1), some (pgD g2), x3, x4, x5, x6, x7, x8] m := fun g1 g2 m x3 x4 x5 x6 x7 x8 ok1 ok2 pm fm => by
      unfold t_L_pair_c2
      walk_at "st"
      refine take_step pm (by decide) (by decide) fun r a1 b1 m3 p3 c3 => ?_
      have fm3 := flatM_chg fm c3
      walk_at "st"
      by_cases hr : 0 < r
      · refine w_iteT (decide_eq_true hr) ?_
        unfold pgD
        walk_at "st"
        simp only [wipeD, List.set]
        refine comp_e rwD (fun r => rwD ⟨r.s, r.t, []⟩) g2.rs [] _ (by rw [List.length_nil]; have := ok2.rl; omega) (fun r hr P0 z => ?_) ?_
        · unfold rwD at z ⊢
          walk_at "st"
          exact z
        rw [List.nil_append]
        walk_at "st"
        have := h g1 ⟨g1.nm, g2.pm, g2.rs.map fun r => ⟨r.s, r.t, []⟩⟩ ok1 ⟨ok1.nm, ok2.pm, by show (g2.rs.map _).length ≤ 10; rw [List.length_map]; exact ok2.rl, fun r hr => by
          obtain ⟨s, hs, rfl⟩ := List.mem_map.mp hr
          have o := ok2.ro s hs
          exact ⟨o.s0, o.s1, o.t0, o.t1, by show 0 ≤ 12; decide, fun w hw => by cases hw⟩⟩ m3 p3 fm3
        unfold pgD at this
        rw [List.map_map] at this
        exact this
      · refine w_iteF (decide_eq_false hr) ?_
        walk_at "st"
        exact h g1 g2 ok1 ok2 m3 p3 fm3
    have vw : ∀ (g : Pg) (q : Addr), Vw [(q, g.rs.map rwD)] (.tup [.lst (g.nm.map D.str), .lst (g.pm.map D.str), .opq (.ref q)]) (pgD g) := fun g q => .tup (.cons .same (.cons .same (.cons (.lst List.mem_cons_self (VwS.same _)) .nil)))
    have mid : ∀ (rs : List Rw) (m : MS), PgOk 41 ⟨g1.nm, g1.pm, rs⟩ → PoolAt m p → flatM m → StG t_L_pair_c1 { nx := fun _ m => Q .non m, rt := Q } [some (.opq (.ref p)), some (.tup [.lst (g1.nm.map D.str), .lst (g1.pm.map D.str), .opq (.ref q1)]), some (pgD g2), none, none, none, none, none, none] ((q1, rs.map rwD) :: m) := fun rs m ok pm fm => by
      unfold t_L_pair_c1
      refine StG.out (w_seq ?_)
      refine StG.out (w_viewS [(q1, rs.map rwD)] m rfl rfl (vw ⟨g1.nm, g1.pm, rs⟩ q1) rfl ?_)
      walk_at "st"
      refine take_step pm (by decide) (by decide) fun r a1 b1 m3 p3 c3 => ?_
      have fm3 := flatM_chg fm c3
      walk_at "st"
      by_cases hr : 0 < r
      · refine w_iteT (decide_eq_true hr) ?_
        unfold pgD
        walk_at "st"
        simp only [wipeD, List.set]
        have pl := ok2.pm.l2
        refine comp_e D.str (fun x => D.str (nm5 x)) g2.pm [] _ (by rw [List.length_nil]; omega) (fun x hx P0 z => ?_) ?_
        · have gl := good_l (ok2.pm.ok x hx)
          have xl : x.length = x.cps.toList.length := rfl
          walk_at "st"
          refine ⟨Nat.le_trans (by omega : x.length ≤ 6) (by decide), ?_⟩
          walk_at "st"
          rw [show cutS x none (some 5) = SX.S (x.cps.toList.take 5) from cutS_to x 5]
          refine ⟨Nat.le_trans (show (SX.S (x.cps.toList.take 5)).length + (Str.ofString "a").length ≤ 100 by rw [SX.S_len, List.length_take, show (Str.ofString "a").length = 1 from rfl]; omega) (by decide), ?_⟩
          rw [nm5_is]
          exact z
        rw [List.nil_append]
        walk_at "st"
        simp only [wipeD, List.set]
        rw [show (g2.pm.map fun x => D.str (nm5 x)) = (g2.pm.map nm5).map D.str by rw [List.map_map]; rfl, enumD_at]
        refine comp_e (fun q : Str × Nat => D.tup [.int (q.2 : Int), .str q.1]) (fun q => D.str (nm4 ([97, 98, 99, 100].getD q.2 0) q.1)) (g2.pm.map nm5).zipIdx [] _ (by rw [List.length_nil, List.length_zipIdx, List.length_map]; omega) (fun q hq P0 z => ?_) ?_
        · obtain ⟨y, k⟩ := q
          have hk : k < 4 := by have := (List.mem_zipIdx hq).2.1; rw [List.length_map] at this; omega
          have hy : goodNm y = true := by
            have : y ∈ g2.pm.map nm5 := by rw [(List.mem_zipIdx hq).2.2]; exact List.getElem_mem _
            obtain ⟨x, hx, rfl⟩ := List.mem_map.mp this
            exact good5 (ok2.pm.ok x hx)
          have gl := good_l hy
          have xl : y.length = y.cps.toList.length := rfl
          obtain ⟨c, ec, lc⟩ : ∃ c, [97, 98, 99, 100].getD k 0 = c ∧ atI [D.str "a", .str "b", .str "c", .str "d"] (k : Int) = some (.str (SX.S [c])) := by
            have : k = 0 ∨ k = 1 ∨ k = 2 ∨ k = 3 := by omega
            rcases this with rfl | rfl | rfl | rfl
            · exact ⟨97, rfl, atI_nat (by rw [← lit "a" [97]]; rfl)⟩
            · exact ⟨98, rfl, atI_nat (by rw [← lit "b" [98]]; rfl)⟩
            · exact ⟨99, rfl, atI_nat (by rw [← lit "c" [99]]; rfl)⟩
            · exact ⟨100, rfl, atI_nat (by rw [← lit "d" [100]]; rfl)⟩
          rw [ec] at z
          walk_at "st"
          refine w_ix_l lc ?_
          walk_at "st"
          refine ⟨Nat.le_trans (by omega : y.length ≤ 6) (by decide), ?_⟩
          walk_at "st"
          rw [show cutS y none (some 4) = SX.S (y.cps.toList.take 4) from cutS_to y 4]
          refine ⟨Nat.le_trans (show (SX.S [c]).length + (SX.S (y.cps.toList.take 4)).length ≤ 100 by rw [SX.S_len, SX.S_len, List.length_take, List.length_singleton]; omega) (by decide), ?_⟩
          walk_at "st"
          rw [S_app]
          refine ⟨Nat.le_trans (show (SX.S ([c] ++ y.cps.toList.take 4)).length + (Str.ofString "a").length ≤ 100 by rw [SX.S_len, List.length_append, List.length_take, List.length_singleton, show (Str.ofString "a").length = 1 from rfl]; omega) (by decide), ?_⟩
          rw [nm4_is]
          exact z
        rw [List.nil_append, called_is (by omega)]
        walk_at "st"
        obtain ⟨co, cl⟩ := called_ok ok2.pm (by omega) (by decide)
        exact rest ⟨g1.nm, g1.pm, rs⟩ ⟨g2.nm, calledL g2.pm, g2.rs⟩ m3 _ _ _ _ _ _ ok ⟨ok2.nm, co, ok2.rl, fun r hr => by
          have o := ok2.ro r hr
          exact ⟨o.s0, by show r.s < ((calledL g2.pm).length : Int); rw [cl]; exact o.s1, o.t0, by show r.t < ((calledL g2.pm).length : Int); rw [cl]; exact o.t1, o.wl, o.wo⟩⟩ p3 fm3
      · refine w_iteF (decide_eq_false hr) ?_
        walk_at "st"
        exact rest ⟨g1.nm, g1.pm, rs⟩ g2 m3 _ _ _ _ _ _ ok ok2 p3 fm3
    refine StG.out (w_viewS [(q2, g2.rs.map rwD)] ((q1, g1.rs.map rwD) :: m2) rfl rfl (vw g2 q2) rfl ?_)
    walk_at "st"
    refine CbG.out (w_len_o look_new ?_)
    walk_at "st"
    rw [List.length_map]
    by_cases h0 : (0 : Int) < (g1.rs.length : Int)
    · rw [decide_eq_true h0]
      walk_at "st"
      by_cases h4 : (g1.rs.length : Int) < 4
      · refine w_iteT (decide_eq_true h4) ?_
        walk_at "st"
        refine take_stepC hne1 p2 (by decide) (by decide) fun r a2 b2 m3 p3 c3 => ?_
        have fm3 := flatM_chg fm2 c3
        walk_at "st"
        cases hd : (r == 0) with
        | false =>
          walk_at "st"
          exact mid g1.rs m3 ok1 p3 fm3
        | true =>
          obtain ⟨r0, rest0, er⟩ : ∃ r0 rest, g1.rs = r0 :: rest := by
            cases e : g1.rs with
            | nil => rw [e] at h0; exact absurd h0 (by decide)
            | cons a b => exact ⟨a, b, rfl⟩
          have e0 : atI (g1.rs.map rwD) 0 = some (rwD r0) := by rw [er]; exact w_at0 _ _
          walk_at "st"
          refine w_ix_o look_new e0 ?_
          walk_at "st"
          refine ⟨Nat.lt_of_lt_of_le (show (g1.rs.map rwD).length < 20 by rw [List.length_map]; omega) (by decide), ?_⟩
          walk_at "st"
          have e3 : ((q1, g1.rs.map rwD ++ [rwD r0]) :: m3 : MS) = (q1, (g1.rs ++ [r0]).map rwD) :: m3 := by rw [List.map_append]; rfl
          rw [e3]
          exact mid (g1.rs ++ [r0]) m3 ⟨ok1.nm, ok1.pm, by show (g1.rs ++ [r0]).length ≤ 10; rw [List.length_append, List.length_singleton]; omega, fun z hz => by
            rcases List.mem_append.mp hz with hz | hz
            · exact ok1.ro z hz
            · rw [List.mem_singleton.mp hz]; exact ok1.ro r0 (by rw [er]; exact List.mem_cons_self)⟩ p3 fm3
      · refine w_iteF (decide_eq_false h4) ?_
        walk_at "st"
        exact mid g1.rs m2 ok1 p2 fm2
    · rw [decide_eq_false h0]
      walk_at "st"
      exact mid g1.rs m2 ok1 p2 fm2
  · exact h.elim
theorem ok_L_pair (T : Tx P K mg) : FnG P w K mg base 6 T.f_L_pair T.d_L_pair ["_law_pool_here"] (spD K sp_L_pair) := by
  have G_L_program := ok_L_program (P := P) (w := w) (base := base) T
  have G_L_take := ok_L_take (P := P) (w := w) (base := base) T
  exact fnG_of (k := 5) (t := t_L_pair) T.F_L_pair sc_L_pair len_L_pair
    (fun cdv A outer s H hr => pds_cons (pds_set (i := 1) sc_L_pair.nd rfl (.inl rfl) (pd_call G_L_program (hr.mono (by decide)) rfl T.g_L_program T.F_L_program.kp T.b_L_program_3 (pda_cons (pd_var 0) (pda_cons (pd_int) (pda_cons (pd_int) (pda_nil)))))) (pds_cons (pds_set (i := 2) sc_L_pair.nd rfl (.inl rfl) (pd_call G_L_program (hr.mono (by decide)) rfl T.g_L_program T.F_L_program.kp T.b_L_program_3 (pda_cons (pd_var 0) (pda_cons (pd_int) (pda_cons (pd_int) (pda_nil)))))) (pds_cons (pds_view (i := 2) (pds_if (pdt_w (pdw_and (pdt_chain op_lt opd_lt op_lt opd_lt (pd_int) (pd_callB call_len cal_len rfl T.n_len (by decide +kernel) (pda_cons (pd_ix ix_seq opd_ix (pd_var 1) (pd_int)) (pda_nil))) (pd_int)) (pdw_and1 (pdt_cmp (op_eqF hr.r.units) opd_eq (pd_call G_L_take (hr.mono (by decide)) rfl T.g_L_take T.F_L_take.kp T.b_L_take_2 (pda_cons (pd_var 0) (pda_cons (pd_int) (pda_nil)))) (pd_int))))) (pds_one (pds_expr (pd_append (pd_ix ix_seq opd_ix (pd_var 1) (pd_int)) (pda_cons (pd_ix ix_seq opd_ix (pd_ix ix_seq opd_ix (pd_var 1) (pd_int)) (pd_int)) (pda_nil))))) (pds_nil))) (pds_cons (pds_view (i := 1) (pds_if (pdt_cmp op_gt opd_gt (pd_call G_L_take (hr.mono (by decide)) rfl T.g_L_take T.F_L_take.kp T.b_L_take_2 (pda_cons (pd_var 0) (pda_cons (pd_int) (pda_nil)))) (pd_int)) (pds_cons (pds_setLc (i := 3) (own := [("_law_name", 4)]) rfl sc_L_pair.nd rfl rfl (sw_true rfl rfl rfl (by decide +kernel)) (pdi_list (pd_ix ix_seq opd_ix (pd_var 2) (pd_int))) (blkOk_by (own := [("_law_name", 4)]) (by kernel_rfl)) (fun _ _ _ _ _ => pg_name (i := 4) sc_L_pair.nd rfl (by first | exact .inl rfl | exact .inr rfl)) (tg_name (i := 4) (by decide)) (mon_name (i := 4)) (fun _ _ _ _ _ => pdts_nil) (fun _ _ _ _ _ => pd_op op_addD opd_add (pd_slice (pd_var 4) (pdo_none) (pdo_some (pd_int))) (pd_str))) (pds_cons (pds_setLc (i := 3) (own := [("_law_at", 5), ("_law_name", 4)]) rfl sc_L_pair.nd rfl rfl (sw_true rfl rfl rfl (by decide +kernel)) (pdi_enum rfl T.n_enumerate (pda_cons (pd_var 3) (pda_nil))) (blkOk_by (own := [("_law_at", 5), ("_law_name", 4)]) (by kernel_rfl)) (fun _ _ _ _ _ => pg_tup rfl (pgs_cons (pg_name (i := 5) sc_L_pair.nd rfl (by first | exact .inl rfl | exact .inr rfl)) (pgs_cons (pg_name (i := 4) sc_L_pair.nd rfl (by first | exact .inl rfl | exact .inr rfl)) (pgs_nil)))) (tg_tup (tgs_cons (tg_name (i := 5) (by decide)) (tgs_cons (tg_name (i := 4) (by decide)) (tgs_nil) (mon_name (i := 4))) (mon_name (i := 5)))) (mon_tup (mon_cons (mon_name (i := 5)) (mon_cons (mon_name (i := 4)) (mon_nil)))) (fun _ _ _ _ _ => pdts_nil) (fun _ _ _ _ _ => pd_op op_addD opd_add (pd_op op_addD opd_add (pd_ix ix_seq opd_ix (pd_lst (pda_cons (pd_str) (pda_cons (pd_str) (pda_cons (pd_str) (pda_cons (pd_str) (pda_nil)))))) (pd_var 5)) (pd_slice (pd_var 4) (pdo_none) (pdo_some (pd_int)))) (pd_str))) (pds_one (pds_set (i := 2) sc_L_pair.nd rfl (.inl rfl) (pd_tup (pda_cons (pd_ix ix_seq opd_ix (pd_var 2) (pd_int)) (pda_cons (pd_var 3) (pda_cons (pd_ix ix_seq opd_ix (pd_var 2) (pd_int)) (pda_nil))))))))) (pds_nil))) (pds_cons (pds_if (pdt_cmp op_gt opd_gt (pd_call G_L_take (hr.mono (by decide)) rfl T.g_L_take T.F_L_take.kp T.b_L_take_2 (pda_cons (pd_var 0) (pda_cons (pd_int) (pda_nil)))) (pd_int)) (pds_one (pds_set (i := 2) sc_L_pair.nd rfl (.inl rfl) (pd_tup (pda_cons (pd_callTy call_list_of cal_list rfl T.n_list (by decide +kernel) (pda_cons (pd_ix ix_seq opd_ix (pd_var 1) (pd_int)) (pda_nil))) (pda_cons (pd_ix ix_seq opd_ix (pd_var 2) (pd_int)) (pda_cons (pd_lc (own := [("_law_start", 6), ("_law_to", 7), ("_law_wants", 8)]) rfl sc_L_pair.nd (pdi_list (pd_ix ix_seq opd_ix (pd_var 2) (pd_int))) (blkOk_by (own := [("_law_start", 6), ("_law_to", 7), ("_law_wants", 8)]) (by kernel_rfl)) (fun _ _ _ _ _ => pg_tup rfl (pgs_cons (pg_name (i := 6) sc_L_pair.nd rfl (by first | exact .inl rfl | exact .inr rfl)) (pgs_cons (pg_name (i := 7) sc_L_pair.nd rfl (by first | exact .inl rfl | exact .inr rfl)) (pgs_cons (pg_name (i := 8) sc_L_pair.nd rfl (by first | exact .inl rfl | exact .inr rfl)) (pgs_nil))))) (tg_tup (tgs_cons (tg_name (i := 6) (by decide)) (tgs_cons (tg_name (i := 7) (by decide)) (tgs_cons (tg_name (i := 8) (by decide)) (tgs_nil) (mon_name (i := 8))) (mon_name (i := 7))) (mon_name (i := 6)))) (mon_tup (mon_cons (mon_name (i := 6)) (mon_cons (mon_name (i := 7)) (mon_cons (mon_name (i := 8)) (mon_nil))))) (fun _ _ _ _ _ => pdts_nil) (fun _ _ _ _ _ => pd_tup (pda_cons (pd_var 6) (pda_cons (pd_var 7) (pda_cons (pd_lst (pda_nil)) (pda_nil)))))) (pda_nil))))))) (pds_nil)) (pds_one (pds_ret (pd_tup (pda_cons (pd_var 1) (pda_cons (pd_var 2) (pda_nil)))))))))))
    sem_L_pair
def sp_L_right : FS := fun ds ms P => match ds with
  | [d1, d2, a, b] => ∃ (g1 g2 : Pg), d1 = pgD g1 ∧ d2 = pgD g2 ∧ PgOk 41 g1 ∧ PgOk 41 g2 ∧ Thg a ∧ Thg b ∧ flatM ms ∧ ∀ ms', flatM ms' → (∀ p, PoolAt ms p → PoolAt ms' p) → P (.bl true) ms'
  | _ => False
theorem len_L_right : ∀ ds ms Q, sp_L_right ds ms Q → ds.length = 4 := fun ds ms Q h => by
  unfold sp_L_right at h
  split at h <;> first | rfl | exact h.elim
def t_L_right : DTS := dSeq (dAsg (dCall 4 0 [0, 1, 2, 3] sp_L_due (aCons (dVar 0) (aCons (dVar 1) (aCons (dVar 2) (aCons (dVar 3) (aNil))))) (aNil)) (sName 4)) (dSeq (dAsg (dCB cRepr (aCons (dLst (aCons (dVar 0) (aCons (dVar 1) (aNil)))) (aNil))) (sName 5)) (dSeq (dAsg (dCall 4 0 [0, 1, 2, 3] sp_L_told (aCons (dVar 0) (aCons (dVar 1) (aCons (dVar 2) (aCons (dVar 3) (aNil))))) (aNil)) (sName 6)) (dSeq (dIfS (dTest (dView 6 (dOp fNe (dCB cRepr (aCons (dVar 6) (aNil))) (dCB cRepr (aCons (dVar 4) (aNil)))))) (dRet (dC (.bl false))) (dNext)) (dSeq (dIfS (dAnd (dTest (dIsi .tuple (dVar 4))) (dTest (dOp fEq (dCB cLen (aCons (dVar 4) (aNil))) (dC (.int 3))))) (dSeq (dIfS (dNot (dTest (dCall 1 0 [0] sp_L_apart (aCons (dVar 6) (aNil)) (aNil)))) (dRet (dC (.bl false))) (dNext)) (dIfS (dTest (dOp fNe (dCB cRepr (aCons (dViewE (dCall 4 0 [0, 1, 2, 3] sp_L_told (aCons (dVar 0) (aCons (dVar 1) (aCons (dVar 2) (aCons (dVar 3) (aNil))))) (aNil))) (aNil))) (dCB cRepr (aCons (dVar 4) (aNil))))) (dRet (dC (.bl false))) (dNext))) (dNext)) (dRet (dOp fEq (dCB cRepr (aCons (dLst (aCons (dVar 0) (aCons (dVar 1) (aNil)))) (aNil))) (dVar 5)))))))
theorem pool_app {L ms : MS} {p : Addr} (h : PoolAt ms p) (f : Frsh L ms) : PoolAt (L ++ ms) p := by
  obtain ⟨a, b, o, e⟩ := h
  exact ⟨a, b, o, by rw [look_off fun q hq z => frsh_off f q hq _ (look_mem e) z.symm]; exact e⟩
/-- a program told anew, seen as it is -/
theorem vw_pg {g : Pg} {t : D} {L : MS} {n p q : Addr} {xs : List LR} (h : PgL g t L n p q xs) : Vw L t (pgD g) := by
  have wl : ∀ bs : List LW, (∀ b ∈ bs, lwM b ∈ L) → VwS L (bs.map lwD) ((bs.map LW.w).map wiD) := fun bs => by
    induction bs with
    | nil => exact fun _ => .nil
    | cons b r ih =>
      intro hb
      exact .cons (.tup (.cons .same (.cons (.lst (hb b List.mem_cons_self) (VwS.same _)) .nil))) (ih fun c hc => hb c (List.mem_cons_of_mem _ hc))
  have rl : ∀ ys : List LR, (∀ x ∈ ys, ∀ e ∈ wsM x.a x.bs, e ∈ L) → VwS L (ys.map lrD) ((ys.map LR.rw).map rwD) := fun ys => by
    induction ys with
    | nil => exact fun _ => .nil
    | cons y r ih =>
      intro hy
      refine .cons (.tup (.cons .same (.cons .same (.cons (.lst (hy y List.mem_cons_self _ List.mem_cons_self) (wl y.bs fun b hb => hy y List.mem_cons_self _ (List.mem_cons_of_mem _ (List.mem_reverse.mpr (List.mem_map_of_mem hb))))) .nil)))) (ih fun c hc => hy c (List.mem_cons_of_mem _ hc))
  rw [h.is]
  refine .tup (.cons (.lst h.mn (VwS.same _)) (.cons (.lst h.mp (VwS.same _)) (.cons (.lst h.mq ?_) .nil)))
  rw [← h.rs]
  exact rl xs h.mr
theorem shw_pg {B : Nat} {g : Pg} (h : PgOk B g) (hB : B ≤ 1900 := by decide) : Shw (pgD g) := (gd_pg h hB).sd.shw
theorem ne_selfS (z : Str) : (!(z == z)) = false := by simp
theorem ne_selfT (z : Str) : (z != z) = false := by simp
theorem good_is {g1 g2 : Pg} {a b : D} (h : goodB g1 g2 a b = true) : okM 6 a = true ∧ okM 10 b = true ∧ unl g1 g2 = false ∧ tooM g1 g2 a b = false := by
  unfold goodB at h
  obtain ⟨h, h4⟩ := Bool.and_eq_true_iff.mp h
  obtain ⟨h, h3⟩ := Bool.and_eq_true_iff.mp h
  obtain ⟨h1, h2⟩ := Bool.and_eq_true_iff.mp h
  refine ⟨h1, h2, ?_, ?_⟩
  · cases e : unl g1 g2 with
    | false => rfl
    | true => rw [e] at h3; cases h3
  · cases e : tooM g1 g2 a b with
    | false => rfl
    | true => rw [e] at h4; cases h4
theorem due_good {g1 g2 : Pg} {a b : D} (h : goodB g1 g2 a b = true) : dueD g1 g2 a b = pgD (besG g1 g2) := by
  obtain ⟨h1, h2, h3, h4⟩ := good_is h
  unfold dueD
  rw [if_pos h1, if_pos h2, h3, if_neg (by decide), h4, if_neg (by decide)]
theorem due_bad {g1 g2 : Pg} {a b : D} (h : goodB g1 g2 a b = false) (ta : Thg a) (tb : Thg b) : (∃ d, Thg d ∧ dueD g1 g2 a b = .tup [.str "number", d]) ∨ ∃ s : String, (Str.ofString s).length ≤ 10 ∧ dueD g1 g2 a b = .str s := by
  unfold dueD
  by_cases h1 : okM 6 a = true
  · rw [if_pos h1]
    by_cases h2 : okM 10 b = true
    · rw [if_pos h2]
      by_cases h3 : unl g1 g2 = true
      · rw [if_pos h3]; exact .inr ⟨"unlike", by decide, rfl⟩
      · rw [if_neg h3]
        by_cases h4 : tooM g1 g2 a b = true
        · rw [if_pos h4]; exact .inr ⟨"many", by decide, rfl⟩
        · exfalso
          unfold goodB at h
          rw [h1, h2, Bool.eq_false_iff.mpr h3, Bool.eq_false_iff.mpr h4] at h
          cases h
    · rw [if_neg h2]; exact .inl ⟨b, tb, rfl⟩
  · rw [if_neg h1]; exact .inl ⟨a, ta, rfl⟩
theorem bes_ok {g1 g2 : Pg} {a b : D} (ok1 : PgOk 41 g1) (ok2 : PgOk 41 g2) (h : goodB g1 g2 a b = true) : PgOk 41 (besG g1 g2) := by
  obtain ⟨ha, hb, hu, hm⟩ := good_is h
  obtain ⟨i, rfl⟩ : ∃ i, a = .int i := by cases a <;> first | exact ⟨_, rfl⟩ | cases ha
  obtain ⟨j, rfl⟩ : ∃ i, b = .int i := by cases b <;> first | exact ⟨_, rfl⟩ | cases hb
  have a6 := of_decide_eq_true (Bool.and_eq_true_iff.mp (show (decide (1 ≤ i) && decide (i ≤ 6)) = true from ha)).2
  have b10 := of_decide_eq_true (Bool.and_eq_true_iff.mp (show (decide (1 ≤ j) && decide (j ≤ 10)) = true from hb)).2
  have hm := Bool.or_eq_false_iff.mp (show (decide (i < (g1.pm.length : Int) + (g2.pm.length : Int)) || decide (j < (g1.rs.length : Int) + (g2.rs.length : Int))) = false from hm)
  have m1 := of_decide_eq_false hm.1
  have m2 := of_decide_eq_false hm.2
  have hu := Bool.or_eq_false_iff.mp (show ((!((g1.nm.length : Int) == (g2.nm.length : Int))) || g2.pm.any fun x => decide (x ∈ g1.pm)) = false from hu)
  have en : g1.nm.length = g2.nm.length := by
    have := hu.1
    rw [Bool.not_eq_false'] at this
    have := beq_iff_eq.mp this
    omega
  have dj := List.any_eq_false.mp hu.2
  have l1 := ok1.pm.l1
  refine ⟨ok1.nm, ⟨by show 1 ≤ (g1.pm ++ g2.pm).length; rw [List.length_append]; omega, by show (g1.pm ++ g2.pm).length ≤ 6; rw [List.length_append]; omega, ?_, fun x hx => ?_⟩, by show (g1.rs ++ g2.rs.map _).length ≤ 10; rw [List.length_append, List.length_map]; omega, fun r hr => ?_⟩
  · refine List.nodup_append.mpr ⟨ok1.pm.nd, ok2.pm.nd, fun x hx y hy e => ?_⟩
    subst e
    exact dj x hy (decide_eq_true hx)
  · rcases List.mem_append.mp hx with hx | hx
    · exact ok1.pm.ok x hx
    · exact ok2.pm.ok x hx
  · have pl : ((besG g1 g2).pm.length : Int) = (g1.pm.length : Int) + (g2.pm.length : Int) := by show (((g1.pm ++ g2.pm).length : Nat) : Int) = _; rw [List.length_append]; omega
    rcases List.mem_append.mp hr with hr | hr
    · have o := ok1.ro r hr
      exact ⟨o.s0, by have := o.s1; omega, o.t0, by have := o.t1; omega, o.wl, o.wo⟩
    · obtain ⟨s, hs, rfl⟩ := List.mem_map.mp hr
      have o := ok2.ro s hs
      refine ⟨?_, ?_, ?_, ?_, o.wl, fun w hw => ?_⟩
      · show 0 ≤ s.s + (g1.pm.length : Int); have := o.s0; omega
      · show s.s + (g1.pm.length : Int) < _; have := o.s1; omega
      · show 0 ≤ s.t + (g1.pm.length : Int); have := o.t0; omega
      · show s.t + (g1.pm.length : Int) < _; have := o.t1; omega
      · show WiOk 41 (2 * g1.nm.length) w
        rw [en]
        exact o.wo w hw
theorem shw_pair {g1 g2 : Pg} (ok1 : PgOk 41 g1) (ok2 : PgOk 41 g2) : Shw (.lst [pgD g1, pgD g2]) := (gd_lstS (gds_cons (gd_pg ok1 (by decide)) (gds_cons (gd_pg ok2 (by decide)) gds_nil))).sd.shw
theorem sem_L_right : ∀ ds ms Q, sp_L_right ds ms Q → t_L_right { nx := fun _ m => Q .non m, rt := Q } (startD 7 ds) ms := by
  intro ds ms Q h
  unfold sp_L_right at h
  split at h
  · rename_i d1 d2 a b
    obtain ⟨g1, g2, rfl, rfl, ok1, ok2, ta, tb, fm, h⟩ := h
    simp only [startD]
    unfold t_L_right
    walk_at "st"
    refine ⟨g1, g2, 41, rfl, rfl, ok1, ok2, ta.any.ty, tb.any.ty, ?_⟩
    walk_at "st"
    refine ⟨shw_pair ok1 ok2, ?_⟩
    walk_at "st"
    refine ⟨g1, g2, rfl, rfl, ok1, ok2, ta, tb, fun hg t L M n p q xs pg fr frM fM => ?_, fun hn => ?_⟩
    · have okb := bes_ok ok1 ok2 hg
      have fm2 := flatM_app fM fm
      rw [due_good hg]
      generalize hG : besG g1 g2 = G at okb pg
      walk_at "st"
      refine ExG.out (w_view L (M ++ ms) rfl rfl (vw_pg pg) rfl ?_)
      walk_at "st"
      refine ⟨shw_pg okb, ?_⟩
      walk_at "st"
      refine ⟨shw_pg okb, ?_⟩
      walk_at "st"
      (first | rw [ne_selfS] | rw [ne_selfT])
      refine ⟨rfl, fm2, ?_⟩
      walk_at "st"
      refine CbG.out (w_len_t (a := [.lst (G.nm.map D.str), .lst (G.pm.map D.str), .lst (G.rs.map rwD)]) ?_)
      walk_at "st"
      refine ⟨G, L, M ++ ms, n, p, q, xs, 41, rfl, pg, fr, okb, fun M2 fM2 frM2 => ?_⟩
      walk_at "st"
      refine ExG.out (w_viewE ?_)
      walk_at "st"
      refine ⟨g1, g2, rfl, rfl, ok1, ok2, ta, tb, fun _ t2 L2 M3 n2 p2 q2 xs2 pg2 fr2 frM3 fM3 => ?_, fun z => by rw [hg] at z; cases z⟩
      rw [hG] at pg2
      refine ⟨L2, M3 ++ (M2 ++ (M ++ ms)), _, rfl, vw_pg pg2, ?_⟩
      walk_at "st"
      refine ⟨shw_pg okb, ?_⟩
      walk_at "st"
      refine ⟨shw_pg okb, ?_⟩
      walk_at "st"
      (first | rw [ne_selfS] | rw [ne_selfT])
      walk_at "st"
      refine ⟨shw_pair ok1 ok2, ?_⟩
      walk_at "st"
      rw [beq_self_eq_true]
      exact h _ (flatM_app fM3 (flatM_app fM2 fm2)) fun p hp => pool_app (pool_app (pool_app hp frM) frM2) frM3
    · have sh : Shw (dueD g1 g2 a b) := by
        rcases due_bad hn ta tb with ⟨d, td, e⟩ | ⟨s, ls, e⟩
        · rw [e]
          exact (gd_tupS (gds_cons ((gd_lit "number").mono (n' := 100) (k' := 3) (by decide) (Nat.zero_le 3)) (gds_cons td.gd gds_nil))).sd.shw
        · rw [e]
          exact ((gd_lit s).mono (n' := 110) (k' := 0) (by omega) (Nat.zero_le 0)).sd.shw
      walk_at "st"
      refine ExG.out (w_view [] ms rfl rfl .same rfl ?_)
      walk_at "st"
      refine ⟨sh, ?_⟩
      walk_at "st"
      refine ⟨sh, ?_⟩
      walk_at "st"
      (first | rw [ne_selfS] | rw [ne_selfT])
      refine ⟨rfl, fm, ?_⟩
      walk_at "st"
      have e0 : ([] ++ ms : MS) = ms := rfl
      rcases due_bad hn ta tb with ⟨d, td, e⟩ | ⟨s, ls, e⟩
      · rw [e, e0]
        walk_at "st"
        refine ⟨shw_pair ok1 ok2, ?_⟩
        walk_at "st"
        rw [beq_self_eq_true]
        exact h _ fm fun p hp => hp
      · rw [e, e0]
        walk_at "st"
        refine ⟨shw_pair ok1 ok2, ?_⟩
        walk_at "st"
        rw [beq_self_eq_true]
        exact h _ fm fun p hp => hp
  · exact h.elim
theorem ok_L_right (T : Tx P K mg) : FnG P w K mg base 11 T.f_L_right T.d_L_right ["_law_near", "_law_far", "_law_most", "_law_least"] (spD K sp_L_right) := by
  have G_L_due := ok_L_due (P := P) (w := w) (base := base) T
  have G_L_told := ok_L_told (P := P) (w := w) (base := base) T
  have G_L_apart := ok_L_apart (P := P) (w := w) (base := base) T
  exact fnG_of (k := 10) (t := t_L_right) T.F_L_right sc_L_right len_L_right
    (fun cdv A outer s H hr => pds_cons (pds_set (i := 4) sc_L_right.nd rfl (.inl rfl) (pd_call G_L_due (hr.mono (by decide)) rfl T.g_L_due T.F_L_due.kp T.b_L_due_4 (pda_cons (pd_var 0) (pda_cons (pd_var 1) (pda_cons (pd_var 2) (pda_cons (pd_var 3) (pda_nil))))))) (pds_cons (pds_set (i := 5) sc_L_right.nd rfl (.inl rfl) (pd_callB (call_reprD hr) cal_repr rfl T.n_repr (by decide +kernel) (pda_cons (pd_lst (pda_cons (pd_var 0) (pda_cons (pd_var 1) (pda_nil)))) (pda_nil)))) (pds_cons (pds_set (i := 6) sc_L_right.nd rfl (.inl rfl) (pd_call G_L_told (hr.mono (by decide)) rfl T.g_L_told T.F_L_told.kp T.b_L_told_4 (pda_cons (pd_var 0) (pda_cons (pd_var 1) (pda_cons (pd_var 2) (pda_cons (pd_var 3) (pda_nil))))))) (pds_cons (pds_if (pdt_cmpV (i := 6) (op_neF hr.r.units) opd_ne (pd_callB (call_reprD hr) cal_repr rfl T.n_repr (by decide +kernel) (pda_cons (pd_var 6) (pda_nil))) (pd_callB (call_reprD hr) cal_repr rfl T.n_repr (by decide +kernel) (pda_cons (pd_var 4) (pda_nil)))) (pds_one (pds_ret (pd_bl))) (pds_nil)) (pds_cons (pds_if (pdt_w (pdw_and (pdt_val (pd_isi .tuple (by decide) rfl T.n_isinstance rfl T.n_tuple (by decide +kernel) (by decide) (by decide) (pd_var 4))) (pdw_and1 (pdt_cmp (op_eqF hr.r.units) opd_eq (pd_callB call_len cal_len rfl T.n_len (by decide +kernel) (pda_cons (pd_var 4) (pda_nil))) (pd_int))))) (pds_cons (pds_if (pdt_not (pdt_val (pd_call G_L_apart (hr.mono (by decide)) rfl T.g_L_apart T.F_L_apart.kp T.b_L_apart_1 (pda_cons (pd_var 6) (pda_nil))))) (pds_one (pds_ret (pd_bl))) (pds_nil)) (pds_one (pds_if (pdt_cmp (op_neF hr.r.units) opd_ne (pd_callB (call_reprD hr) cal_repr rfl T.n_repr (by decide +kernel) (pda_cons (pd_viewE (pd_call G_L_told (hr.mono (by decide)) rfl T.g_L_told T.F_L_told.kp T.b_L_told_4 (pda_cons (pd_var 0) (pda_cons (pd_var 1) (pda_cons (pd_var 2) (pda_cons (pd_var 3) (pda_nil))))))) (pda_nil))) (pd_callB (call_reprD hr) cal_repr rfl T.n_repr (by decide +kernel) (pda_cons (pd_var 4) (pda_nil)))) (pds_one (pds_ret (pd_bl))) (pds_nil)))) (pds_nil)) (pds_one (pds_ret (pd_cmp (op_eqF hr.r.units) opd_eq (pd_callB (call_reprD hr) cal_repr rfl T.n_repr (by decide +kernel) (pda_cons (pd_lst (pda_cons (pd_var 0) (pda_cons (pd_var 1) (pda_nil)))) (pda_nil))) (pd_var 5)))))))))
    sem_L_right
def sp_L_law : FS := fun ds ms P => match ds with
  | [.fro xs] => ∃ ns : List Int, xs = ns.map D.int ∧ flatM ms ∧ ∀ ms', P (.bl true) ms'
  | _ => False
theorem len_L_law : ∀ ds ms Q, sp_L_law ds ms Q → ds.length = 1 := fun ds ms Q h => by
  unfold sp_L_law at h
  split at h <;> first | rfl | exact h.elim
def t_L_law : DTS := dSeq (dIfS (dTest (dOp fNe (dCB cRepr (aCons (dLst (aCons (dC (.int 6)) (aCons (dC (.int 10)) (aNil)))) (aNil))) (dC (.str "[6, 10]")))) (dRet (dC (.bl false))) (dNext)) (dSeq (dFor (iRange1 (aCons (dCB cMax2 (aCons (dC (.int 1)) (aCons (dCB cMin2 (aCons (dCB cLen (aCons (dVar 0) (aNil))) (aCons (dC (.int 16)) (aNil)))) (aNil)))) (aNil))) (sName 1) (dSeq (dAsg (dCall 2 0 [0, 1] sp_L_pool (aCons (dVar 0) (aCons (dVar 1) (aNil))) (aNil)) (sName 2)) (dSeq (dAsg (dCall 1 0 [0] sp_L_pair (aCons (dVar 2) (aNil)) (aNil)) (sTup 2 (sCons (sName 3) (sCons (sName 4) (sNil))))) (dSeq (dAsg (dOp fAdd (dCB cLen (aCons (dOp fIx (dVar 3) (dC (.int 1))) (aNil))) (dCB cLen (aCons (dOp fIx (dVar 4) (dC (.int 1))) (aNil)))) (sName 5)) (dSeq (dAsg (dOp fAdd (dCB cLen (aCons (dOp fIx (dVar 3) (dC (.int 2))) (aNil))) (dCB cLen (aCons (dOp fIx (dVar 4) (dC (.int 2))) (aNil)))) (sName 6)) (dSeq (dAsg (dOp fIx (dLst (aCons (dC (.int 0)) (aCons (dC (.int 7)) (aCons (dC (.int 11)) (aCons (dNeg (dC (.int 1))) (aCons (dC (.bl true)) (aCons (dC .non) (aCons (dC (.str "6")) (aCons (dLst (aCons (dC (.int 6)) (aNil))) (aCons (dOp fPow (dC (.int 10)) (dC (.int 20))) (aNil))))))))))) (dCall 2 0 [0, 1] sp_L_take (aCons (dVar 2) (aCons (dC (.int 9)) (aNil))) (aNil))) (sName 7)) (dSeq (dAsg (dLst (aCons (dTup (aCons (dC (.int 6)) (aCons (dC (.int 10)) (aNil)))) (aCons (dTup (aCons (dC (.int 6)) (aCons (dC (.int 10)) (aNil)))) (aCons (dTup (aCons (dCB cMin2 (aCons (dC (.int 6)) (aCons (dVar 5) (aNil)))) (aCons (dCB cMax2 (aCons (dC (.int 1)) (aCons (dCB cMin2 (aCons (dC (.int 10)) (aCons (dVar 6) (aNil)))) (aNil)))) (aNil)))) (aCons (dTup (aCons (dCB cMax2 (aCons (dC (.int 1)) (aCons (dCB cMin2 (aCons (dC (.int 6)) (aCons (dOp fSub (dVar 5) (dC (.int 1))) (aNil)))) (aNil)))) (aCons (dC (.int 10)) (aNil)))) (aNil)))))) (sName 8)) (dSeq (dAsg (dOp fAdd (dVar 8) (dLst (aCons (dTup (aCons (dC (.int 6)) (aCons (dCB cMax2 (aCons (dC (.int 1)) (aCons (dCB cMin2 (aCons (dC (.int 10)) (aCons (dOp fSub (dVar 6) (dC (.int 1))) (aNil)))) (aNil)))) (aNil)))) (aCons (dTup (aCons (dVar 7) (aCons (dC (.int 10)) (aNil)))) (aCons (dTup (aCons (dC (.int 6)) (aCons (dVar 7) (aNil)))) (aCons (dTup (aCons (dVar 7) (aCons (dLst (aCons (dVar 7) (aNil))) (aNil)))) (aNil))))))) (sName 8)) (dSeq (dFor (iSeq (dVar 8)) (sTup 2 (sCons (sName 9) (sCons (sName 10) (sNil)))) (dIfS (dOr (dNot (dTest (dCall 4 0 [0, 1, 2, 3] sp_L_right (aCons (dVar 3) (aCons (dVar 4) (aCons (dVar 9) (aCons (dVar 10) (aNil))))) (aNil)))) (dNot (dTest (dCall 4 0 [0, 1, 2, 3] sp_L_right (aCons (dVar 4) (aCons (dVar 3) (aCons (dVar 9) (aCons (dVar 10) (aNil))))) (aNil))))) (dRet (dC (.bl false))) (dNext))) (dIfS (dNot (dTest (dCall 4 0 [0, 1, 2, 3] sp_L_right (aCons (dVar 3) (aCons (dVar 3) (aCons (dC (.int 6)) (aCons (dC (.int 10)) (aNil))))) (aNil)))) (dRet (dC (.bl false))) (dNext))))))))))) (dRet (dC (.bl true))))
theorem thg_int {i : Int} (h : Bd 100 i) : Thg (.int i) := ⟨.int h, (gd_int h).mono (by decide) (by decide)⟩
structure Thg1 (d : D) : Prop where
  any : Any false 100 10 1 d
  gd : Gd d 2050 2
theorem Thg1.thg {d : D} (h : Thg1 d) : Thg d := ⟨h.any.up (by decide), h.gd.mono (by decide) (by decide)⟩
theorem Thg1.lst {d : D} (h : Thg1 d) : Thg (.lst [d]) := ⟨.lst (by simp) fun x hx => by rw [List.mem_singleton.mp hx]; exact h.any, (gd_lst (n := 2050) (k := 2) fun x hx => by rw [List.mem_singleton.mp hx]; exact h.gd).mono (by rw [List.length_singleton]; decide) (by decide)⟩
theorem odd_thg : ∀ d ∈ [D.int 0, .int 7, .int 11, .int (-1), .bl true, .non, .str "6", .lst [.int 6], .int 100000000000000000000], Thg1 d := fun d hd => by
  have ti : ∀ i : Int, Bd 100 i → Thg1 (.int i) := fun i h => ⟨.int h, (gd_int h).mono (by decide) (by decide)⟩
  simp only [List.mem_cons, List.not_mem_nil, or_false] at hd
  rcases hd with rfl | rfl | rfl | rfl | rfl | rfl | rfl | rfl | rfl
  · exact ti _ (by unfold Bd; decide)
  · exact ti _ (by unfold Bd; decide)
  · exact ti _ (by unfold Bd; decide)
  · exact ti _ (by unfold Bd; decide)
  · exact ⟨.bl _, (gd_bl _).mono (by decide) (by decide)⟩
  · exact ⟨.non, gd_non.mono (by decide) (by decide)⟩
  · exact ⟨.str (x := Str.ofString "6") (by decide) (by decide +kernel), (gd_lit "6").mono (by decide) (by decide)⟩
  · exact ⟨.lst (by simp) fun x hx => by rw [List.mem_singleton.mp hx]; exact .int (by unfold Bd; decide), (gd_lst (n := 2000) (k := 0) fun x hx => by rw [List.mem_singleton.mp hx]; exact gd_int (n := 10) (by unfold Bd; decide)).mono (by decide) (by decide)⟩
  · exact ti _ (by unfold Bd; decide)
theorem at_memV {xs : List D} {r : Int} (h0 : 0 ≤ r) (h1 : r < (xs.length : Int)) : ∃ d, atI xs r = some d ∧ d ∈ xs := by
  obtain ⟨j, rfl⟩ : ∃ j : Nat, r = (j : Int) := ⟨r.toNat, by omega⟩
  have hj : j < xs.length := by omega
  exact ⟨_, atI_nat (List.getElem?_eq_getElem hj), List.getElem_mem hj⟩
theorem t20 : (10 : Int) ^ Int.toNat 20 = 100000000000000000000 := by decide +kernel
theorem sem_L_law : ∀ ds ms Q, sp_L_law ds ms Q → t_L_law { nx := fun _ m => Q .non m, rt := Q } (startD 11 ds) ms := by
  intro ds ms Q h
  unfold sp_L_law at h
  split at h
  · obtain ⟨ns, rfl, fm, h⟩ := h
    simp only [startD]
    unfold t_L_law
    walk_at "st"
    have s6 : Shw (.lst [.int 6, .int 10]) := (gd_lst (n := 2000) (k := 0) fun x hx => by
      simp only [List.mem_cons, List.not_mem_nil, or_false] at hx
      rcases hx with rfl | rfl
      · exact gd_int (n := 10) (by unfold Bd; decide)
      · exact gd_int (n := 10) (by unfold Bd; decide)).sd.shw
    refine ⟨s6, ?_⟩
    walk_at "st"
    have hy := cells_le 16 (by decide) (ns.map D.int).length
    generalize (if (if 16 < ((ns.map D.int).length : Int) then 16 else ((ns.map D.int).length : Int)) > 1 then if 16 < ((ns.map D.int).length : Int) then 16 else ((ns.map D.int).length : Int) else 1) = y at hy
    refine w_mRng ⟨by omega, by omega⟩ ?_
    refine loop_inv (fun ds ms => flatM ms ∧ ∃ x1 x2 x3 x4 x5 x6 x7 x8 x9 x10, ds = [some (.fro (ns.map D.int)), x1, x2, x3, x4, x5, x6, x7, x8, x9, x10]) _ _ _ ⟨fm, _, _, _, _, _, _, _, _, _, _, rfl⟩ ?_ ?_
    · rintro x hx ds ms ⟨fm, x1, x2, x3, x4, x5, x6, x7, x8, x9, x10, rfl⟩ N hN
      obtain ⟨i, hi, rfl⟩ := rng_mem hx
      walk_at "st"
      refine ⟨ns, rfl, by omega, by omega, fun p hp a b o => ?_⟩
      have p0 : PoolAt ((p, [.int a, .int b]) :: ms) p := .new o
      have fm0 : flatM ((p, [D.int a, D.int b]) :: ms) := flatM_cons fm (flats_ints [a, b])
      generalize ((p, [D.int a, D.int b]) :: ms) = m0 at p0 fm0
      walk_at "st"
      refine ⟨p0, fm0, fun g1 g2 ok1 ok2 m1 p1 fm1 => ?_⟩
      have a1 := ok1.pm.l2
      have a2 := ok2.pm.l2
      have b1 := ok1.rl
      have b2 := ok2.rl
      unfold pgD
      walk_at "st"
      refine w_pow (by decide) t20 ?_
      walk_at "st"
      refine take_step p1 (by decide) (by decide) fun r c1 d1 m2 p2 c2 => ?_
      have fm2 := flatM_chg fm1 c2
      obtain ⟨odd, eo, ho⟩ := at_memV (xs := [D.int 0, .int 7, .int 11, .int (-1), .bl true, .non, .str "6", .lst [.int 6], .int 100000000000000000000]) c1 (by exact d1)
      have oo := odd_thg odd ho
      walk_at "st"
      refine w_ix_l eo ?_
      walk_at "st"
      simp only [List.length_map]
      have hs : 0 ≤ (g1.pm.length : Int) + (g2.pm.length : Int) ∧ (g1.pm.length : Int) + (g2.pm.length : Int) ≤ 12 := by omega
      have hr : 0 ≤ (g1.rs.length : Int) + (g2.rs.length : Int) ∧ (g1.rs.length : Int) + (g2.rs.length : Int) ≤ 20 := by omega
      generalize (g1.pm.length : Int) + (g2.pm.length : Int) = sz at hs
      generalize (g1.rs.length : Int) + (g2.rs.length : Int) = rz at hr
      refine loop_inv (fun ds m' => flatM m' ∧ ∃ x5 x6 x7 x8 x9 x10, ds = [some (.fro (ns.map D.int)), some (.int (0 + (i : Int))), some (.opq (.ref p)), some (pgD g1), some (pgD g2), x5, x6, x7, x8, x9, x10]) _ _ _ ⟨fm2, _, _, _, _, _, _, rfl⟩ ?_ ?_
      · rintro x hx ds m' ⟨fm', x5, x6, x7, x8, x9, x10, rfl⟩ G hG
        obtain ⟨a, b, rfl, ta, tb⟩ : ∃ a b, x = .tup [a, b] ∧ Thg a ∧ Thg b := by
          have b6 := thg_int (i := 6) (by unfold Bd; decide)
          have b10 := thg_int (i := 10) (by unfold Bd; decide)
          have small : ∀ i : Int, -1000 ≤ i → i ≤ 1000 → Bd 100 i := fun i h1 h2 => by unfold Bd; omega
          have lo : ∀ (t k : Int), 0 ≤ t → t ≤ 20 → -1 ≤ k → k ≤ 20 → Thg (.int (if (if k < t then k else t) > 1 then (if k < t then k else t) else 1)) := fun t k _ _ _ _ => thg_int (small _ (by split <;> (try split) <;> omega) (by split <;> (try split) <;> omega))
          have mi : ∀ (t k : Int), 0 ≤ t → t ≤ 20 → -1 ≤ k → k ≤ 20 → Thg (.int (if k < t then k else t)) := fun t k _ _ _ _ => thg_int (small _ (by split <;> omega) (by split <;> omega))
          simp only [List.mem_append, List.mem_cons, List.not_mem_nil, or_false] at hx
          rcases hx with (rfl | rfl | rfl | rfl) | rfl | rfl | rfl | rfl
          · exact ⟨_, _, rfl, b6, b10⟩
          · exact ⟨_, _, rfl, b6, b10⟩
          · exact ⟨_, _, rfl, mi 6 sz (by omega) (by omega) (by omega) (by omega), lo 10 rz (by omega) (by omega) (by omega) (by omega)⟩
          · exact ⟨_, _, rfl, lo 6 (sz - 1) (by omega) (by omega) (by omega) (by omega), b10⟩
          · exact ⟨_, _, rfl, b6, lo 10 (rz - 1) (by omega) (by omega) (by omega) (by omega)⟩
          · exact ⟨_, _, rfl, oo.thg, b10⟩
          · exact ⟨_, _, rfl, b6, oo.thg⟩
          · exact ⟨_, _, rfl, oo.thg, oo.lst⟩
        walk_at "st"
        refine ⟨g1, g2, rfl, rfl, ok1, ok2, ta, tb, fm', fun m3 fm3 _ => ?_⟩
        walk_at "st"
        refine ⟨g2, g1, rfl, rfl, ok2, ok1, ta, tb, fm3, fun m4 fm4 _ => ?_⟩
        walk_at "st"
        exact hG _ _ ⟨fm4, _, _, _, _, _, _, rfl⟩
      · rintro ds m' ⟨fm', x5, x6, x7, x8, x9, x10, rfl⟩
        walk_at "st"
        refine ⟨g1, g1, rfl, rfl, ok1, ok1, thg_int (by unfold Bd; decide), thg_int (by unfold Bd; decide), fm', fun m3 fm3 _ => ?_⟩
        walk_at "st"
        exact hN _ _ ⟨fm3, _, _, _, _, _, _, _, _, _, _, rfl⟩
    · rintro ds m ⟨fm, x1, x2, x3, x4, x5, x6, x7, x8, x9, x10, rfl⟩
      walk_at "st"
      exact h m
  · exact h.elim
theorem ok_L_law (T : Tx P K mg) : FnG P w K mg base 12 T.f_L_law T.d_L_law ["_law_script"] (spD K sp_L_law) := by
  have G_L_pool := ok_L_pool (P := P) (w := w) (base := base) T
  have G_L_pair := ok_L_pair (P := P) (w := w) (base := base) T
  have G_L_take := ok_L_take (P := P) (w := w) (base := base) T
  have G_L_right := ok_L_right (P := P) (w := w) (base := base) T
  exact fnG_of (k := 11) (t := t_L_law) T.F_L_law sc_L_law len_L_law
    (fun cdv A outer s H hr => pds_cons (pds_if (pdt_cmp (op_neF hr.r.units) opd_ne (pd_callB (call_reprD hr) cal_repr rfl T.n_repr (by decide +kernel) (pda_cons (pd_lst (pda_cons (pd_glob (v := .int (6)) rfl T.c_MOST_PLACES ⟨_, rfl⟩ (fun _ => .int _)) (pda_cons (pd_glob (v := .int (10)) rfl T.c_MOST_ROWS ⟨_, rfl⟩ (fun _ => .int _)) (pda_nil)))) (pda_nil))) (pd_str)) (pds_one (pds_ret (pd_bl))) (pds_nil)) (pds_cons (pds_for (vs := [1]) rfl (pdi_range1 rfl T.n_range (pda_cons (pd_callB (call_max2 rfl) cal_max2 rfl T.n_max (by decide +kernel) (pda_cons (pd_int) (pda_cons (pd_callB (call_min2 rfl) cal_min2 rfl T.n_min (by decide +kernel) (pda_cons (pd_callB call_len cal_len rfl T.n_len (by decide +kernel) (pda_cons (pd_var 0) (pda_nil))) (pda_cons (pd_int) (pda_nil)))) (pda_nil)))) (pda_nil))) (pg_name (i := 1) sc_L_law.nd rfl (.inl rfl)) (tg_name (i := 1) (by decide)) (pds_cons (pds_set (i := 2) sc_L_law.nd rfl (.inl rfl) (pd_call G_L_pool (hr.mono (by decide)) rfl T.g_L_pool T.F_L_pool.kp T.b_L_pool_2 (pda_cons (pd_var 0) (pda_cons (pd_var 1) (pda_nil))))) (pds_cons (pds_asg (vs := [3, 4]) (pd_call G_L_pair (hr.mono (by decide)) rfl T.g_L_pair T.F_L_pair.kp T.b_L_pair_1 (pda_cons (pd_var 2) (pda_nil))) (pg_tup rfl (pgs_cons (pg_name (i := 3) sc_L_law.nd rfl (.inl rfl)) (pgs_cons (pg_name (i := 4) sc_L_law.nd rfl (.inl rfl)) (pgs_nil)))) (tg_tup (tgs_cons (tg_name (i := 3) (by decide)) (tgs_cons (tg_name (i := 4) (by decide)) (tgs_nil) (mon_name (i := 4))) (mon_name (i := 3))))) (pds_cons (pds_set (i := 5) sc_L_law.nd rfl (.inl rfl) (pd_op op_addD opd_add (pd_callB call_len cal_len rfl T.n_len (by decide +kernel) (pda_cons (pd_ix ix_seq opd_ix (pd_var 3) (pd_int)) (pda_nil))) (pd_callB call_len cal_len rfl T.n_len (by decide +kernel) (pda_cons (pd_ix ix_seq opd_ix (pd_var 4) (pd_int)) (pda_nil))))) (pds_cons (pds_set (i := 6) sc_L_law.nd rfl (.inl rfl) (pd_op op_addD opd_add (pd_callB call_len cal_len rfl T.n_len (by decide +kernel) (pda_cons (pd_ix ix_seq opd_ix (pd_var 3) (pd_int)) (pda_nil))) (pd_callB call_len cal_len rfl T.n_len (by decide +kernel) (pda_cons (pd_ix ix_seq opd_ix (pd_var 4) (pd_int)) (pda_nil))))) (pds_cons (pds_set (i := 7) sc_L_law.nd rfl (.inl rfl) (pd_ix ix_seq opd_ix (pd_lst (pda_cons (pd_int) (pda_cons (pd_int) (pda_cons (pd_int) (pda_cons (pd_neg (pd_int)) (pda_cons (pd_bl) (pda_cons (pd_non) (pda_cons (pd_str) (pda_cons (pd_lst (pda_cons (pd_int) (pda_nil))) (pda_cons (pd_op op_pow opd_pow (pd_int) (pd_int)) (pda_nil))))))))))) (pd_call G_L_take (hr.mono (by decide)) rfl T.g_L_take T.F_L_take.kp T.b_L_take_2 (pda_cons (pd_var 2) (pda_cons (pd_int) (pda_nil)))))) (pds_cons (pds_set (i := 8) sc_L_law.nd rfl (.inl rfl) (pd_lst (pda_cons (pd_tup (pda_cons (pd_int) (pda_cons (pd_int) (pda_nil)))) (pda_cons (pd_tup (pda_cons (pd_int) (pda_cons (pd_int) (pda_nil)))) (pda_cons (pd_tup (pda_cons (pd_callB (call_min2 rfl) cal_min2 rfl T.n_min (by decide +kernel) (pda_cons (pd_int) (pda_cons (pd_var 5) (pda_nil)))) (pda_cons (pd_callB (call_max2 rfl) cal_max2 rfl T.n_max (by decide +kernel) (pda_cons (pd_int) (pda_cons (pd_callB (call_min2 rfl) cal_min2 rfl T.n_min (by decide +kernel) (pda_cons (pd_int) (pda_cons (pd_var 6) (pda_nil)))) (pda_nil)))) (pda_nil)))) (pda_cons (pd_tup (pda_cons (pd_callB (call_max2 rfl) cal_max2 rfl T.n_max (by decide +kernel) (pda_cons (pd_int) (pda_cons (pd_callB (call_min2 rfl) cal_min2 rfl T.n_min (by decide +kernel) (pda_cons (pd_int) (pda_cons (pd_op op_sub opd_sub (pd_var 5) (pd_int)) (pda_nil)))) (pda_nil)))) (pda_cons (pd_int) (pda_nil)))) (pda_nil))))))) (pds_cons (pds_set (i := 8) sc_L_law.nd rfl (.inl rfl) (pd_op op_addD opd_add (pd_var 8) (pd_lst (pda_cons (pd_tup (pda_cons (pd_int) (pda_cons (pd_callB (call_max2 rfl) cal_max2 rfl T.n_max (by decide +kernel) (pda_cons (pd_int) (pda_cons (pd_callB (call_min2 rfl) cal_min2 rfl T.n_min (by decide +kernel) (pda_cons (pd_int) (pda_cons (pd_op op_sub opd_sub (pd_var 6) (pd_int)) (pda_nil)))) (pda_nil)))) (pda_nil)))) (pda_cons (pd_tup (pda_cons (pd_var 7) (pda_cons (pd_int) (pda_nil)))) (pda_cons (pd_tup (pda_cons (pd_int) (pda_cons (pd_var 7) (pda_nil)))) (pda_cons (pd_tup (pda_cons (pd_var 7) (pda_cons (pd_lst (pda_cons (pd_var 7) (pda_nil))) (pda_nil)))) (pda_nil)))))))) (pds_cons (pds_for (vs := [9, 10]) rfl (pdi_list (pd_var 8)) (pg_tup rfl (pgs_cons (pg_name (i := 9) sc_L_law.nd rfl (.inl rfl)) (pgs_cons (pg_name (i := 10) sc_L_law.nd rfl (.inl rfl)) (pgs_nil)))) (tg_tup (tgs_cons (tg_name (i := 9) (by decide)) (tgs_cons (tg_name (i := 10) (by decide)) (tgs_nil) (mon_name (i := 10))) (mon_name (i := 9)))) (pds_one (pds_if (pdt_w (pdw_or (pdt_not (pdt_val (pd_call G_L_right (hr.mono (by decide)) rfl T.g_L_right T.F_L_right.kp T.b_L_right_4 (pda_cons (pd_var 3) (pda_cons (pd_var 4) (pda_cons (pd_var 9) (pda_cons (pd_var 10) (pda_nil)))))))) (pdw_or1 (pdt_not (pdt_val (pd_call G_L_right (hr.mono (by decide)) rfl T.g_L_right T.F_L_right.kp T.b_L_right_4 (pda_cons (pd_var 4) (pda_cons (pd_var 3) (pda_cons (pd_var 9) (pda_cons (pd_var 10) (pda_nil))))))))))) (pds_one (pds_ret (pd_bl))) (pds_nil)))) (pds_one (pds_if (pdt_not (pdt_val (pd_call G_L_right (hr.mono (by decide)) rfl T.g_L_right T.F_L_right.kp T.b_L_right_4 (pda_cons (pd_var 3) (pda_cons (pd_var 3) (pda_cons (pd_int) (pda_cons (pd_int) (pda_nil)))))))) (pds_one (pds_ret (pd_bl))) (pds_nil)))))))))))) (pds_one (pds_ret (pd_bl)))))
    sem_L_law
end
theorem all_mk {l : PySem.W.OpenLaw} {w : World} {K : PySem.W.Frag} {h : Heap} {mg : Str → Option Value} {fa : Addr} (X : K.In h) (G : h.Ns mainGlobals mg) (hfa : mg "law" = some (.ref fa))
    {f0 : Addr} {od0 an0 : Option Addr} {sl0 : Array (Option Value)} {oc0 kV0 dc0 pm0 cd0 ct0 : Value}
    {f1 : Addr} {od1 an1 : Option Addr} {sl1 : Array (Option Value)} {oc1 kV1 dc1 pm1 cd1 ct1 : Value}
    {f2 : Addr} {od2 an2 : Option Addr} {sl2 : Array (Option Value)} {oc2 kV2 dc2 pm2 cd2 ct2 : Value}
    {f3 : Addr} {od3 an3 : Option Addr} {sl3 : Array (Option Value)} {oc3 kV3 dc3 pm3 cd3 ct3 : Value}
    {f4 : Addr} {od4 an4 : Option Addr} {sl4 : Array (Option Value)} {oc4 kV4 dc4 pm4 cd4 ct4 : Value}
    {f5 : Addr} {od5 an5 : Option Addr} {sl5 : Array (Option Value)} {oc5 kV5 dc5 pm5 cd5 ct5 : Value}
    {f6 : Addr} {od6 an6 : Option Addr} {sl6 : Array (Option Value)} {oc6 kV6 dc6 pm6 cd6 ct6 : Value}
    {f7 : Addr} {od7 an7 : Option Addr} {sl7 : Array (Option Value)} {oc7 kV7 dc7 pm7 cd7 ct7 : Value}
    {f8 : Addr} {od8 an8 : Option Addr} {sl8 : Array (Option Value)} {oc8 kV8 dc8 pm8 cd8 ct8 : Value}
    {f9 : Addr} {od9 an9 : Option Addr} {sl9 : Array (Option Value)} {oc9 kV9 dc9 pm9 cd9 ct9 : Value}
    {f10 : Addr} {od10 an10 : Option Addr} {sl10 : Array (Option Value)} {oc10 kV10 dc10 pm10 cd10 ct10 : Value}
    {f11 : Addr} {od11 an11 : Option Addr} {sl11 : Array (Option Value)} {oc11 kV11 dc11 pm11 cd11 ct11 : Value}
    {f12 : Addr} {od12 an12 : Option Addr} {sl12 : Array (Option Value)} {oc12 kV12 dc12 pm12 cd12 ct12 : Value}
    {f13 : Addr} {od13 an13 : Option Addr} {sl13 : Array (Option Value)} {oc13 kV13 dc13 pm13 cd13 ct13 : Value}
    {f14 : Addr} {od14 an14 : Option Addr} {sl14 : Array (Option Value)} {oc14 kV14 dc14 pm14 cd14 ct14 : Value}
    {kd15 : Addr} {kk15_0 kk15_1 : Tok}
    {f15 : Addr} {od15 an15 : Option Addr} {sl15 : Array (Option Value)} {oc15 dc15 pm15 cd15 ct15 : Value}
    {f16 : Addr} {od16 an16 : Option Addr} {sl16 : Array (Option Value)} {oc16 kV16 dc16 pm16 cd16 ct16 : Value}
    {f17 : Addr} {od17 an17 : Option Addr} {sl17 : Array (Option Value)} {oc17 kV17 dc17 pm17 cd17 ct17 : Value}
    {f18 : Addr} {od18 an18 : Option Addr} {sl18 : Array (Option Value)} {oc18 kV18 dc18 pm18 cd18 ct18 : Value}
    {f19 : Addr} {od19 an19 : Option Addr} {sl19 : Array (Option Value)} {oc19 kV19 dc19 pm19 cd19 ct19 : Value}
    {f20 : Addr} {od20 an20 : Option Addr} {sl20 : Array (Option Value)} {oc20 kV20 dc20 pm20 cd20 ct20 : Value}
    {f21 : Addr} {od21 an21 : Option Addr} {sl21 : Array (Option Value)} {oc21 kV21 dc21 pm21 cd21 ct21 : Value}
    {f22 : Addr} {od22 an22 : Option Addr} {sl22 : Array (Option Value)} {oc22 kV22 dc22 pm22 cd22 ct22 : Value}
    {f23 : Addr} {od23 an23 : Option Addr} {sl23 : Array (Option Value)} {oc23 kV23 dc23 pm23 cd23 ct23 : Value}
    {f24 : Addr} {od24 an24 : Option Addr} {sl24 : Array (Option Value)} {oc24 kV24 dc24 pm24 cd24 ct24 : Value}
    {f25 : Addr} {od25 an25 : Option Addr} {sl25 : Array (Option Value)} {oc25 kV25 dc25 pm25 cd25 ct25 : Value}
    {f26 : Addr} {od26 an26 : Option Addr} {sl26 : Array (Option Value)} {oc26 kV26 dc26 pm26 cd26 ct26 : Value}
    {f27 : Addr} {od27 an27 : Option Addr} {sl27 : Array (Option Value)} {oc27 kV27 dc27 pm27 cd27 ct27 : Value}
    {f28 : Addr} {od28 an28 : Option Addr} {sl28 : Array (Option Value)} {oc28 kV28 dc28 pm28 cd28 ct28 : Value}
    {tk_JUST : Tok}
    {tk_LEAST : Tok}
    {tk_LETTERS : Tok}
    {tk_LONGEST_NAME : Tok}
    {tk_MOST_NAMES : Tok}
    {tk_MOST_NUMBERS : Tok}
    {tk_MOST_PLACES : Tok}
    {tk_MOST_ROWS : Tok}
    {tk_MOST_WISHES : Tok}
    {ec_NoNumber : Addr}
    {ec_NoProgram : Addr}
    {ec_TooMany : Addr}
    {ec_Unlike : Addr}
    {ec_WeighError : Addr}
    {fi_NoNumber icc_NoNumber icd_NoNumber : Addr} {iod_NoNumber ian_NoNumber jcd_NoNumber kcd_NoNumber : Option Addr} {ioc_NoNumber ikV_NoNumber idc_NoNumber ipm_NoNumber ict_NoNumber jcl_NoNumber kcl_NoNumber : Value} {isl_NoNumber jcs_NoNumber kcs_NoNumber : Array (Option Value)} {kvs_NoNumber : Array Value} {kfl_NoNumber : Str} {kft_NoNumber : Tok}
    (a0 : PySem.W.nsIn K mainGlobals "is_whole" = some (some (.ref f0)))
    (l0 : K.lookup f0 = some ⟨oc0, od0, .func (PySem.W.fnOf "is_whole" "is_whole" (defArgs s_p_is_whole) (defBody s_p_is_whole) (defScope s_p_is_whole) .none kV0 dc0 pm0 an0 cd0 ct0), sl0⟩)
    (c0 : PySem.W.codeIn K cd0 "is_whole" = true) (k0 : PySem.W.keepIn K (.ref f0) = true)
    (a1 : PySem.W.nsIn K mainGlobals "is_one_of" = some (some (.ref f1)))
    (l1 : K.lookup f1 = some ⟨oc1, od1, .func (PySem.W.fnOf "is_one_of" "is_one_of" (defArgs s_p_is_one_of) (defBody s_p_is_one_of) (defScope s_p_is_one_of) .none kV1 dc1 pm1 an1 cd1 ct1), sl1⟩)
    (c1 : PySem.W.codeIn K cd1 "is_one_of" = true) (k1 : PySem.W.keepIn K (.ref f1) = true)
    (a2 : PySem.W.nsIn K mainGlobals "look_at_many" = some (some (.ref f2)))
    (l2 : K.lookup f2 = some ⟨oc2, od2, .func (PySem.W.fnOf "look_at_many" "look_at_many" (defArgs s_p_look_at_many) (defBody s_p_look_at_many) (defScope s_p_look_at_many) .none kV2 dc2 pm2 an2 cd2 ct2), sl2⟩)
    (c2 : PySem.W.codeIn K cd2 "look_at_many" = true) (k2 : PySem.W.keepIn K (.ref f2) = true)
    (a3 : PySem.W.nsIn K mainGlobals "is_line" = some (some (.ref f3)))
    (l3 : K.lookup f3 = some ⟨oc3, od3, .func (PySem.W.fnOf "is_line" "is_line" (defArgs s_p_is_line) (defBody s_p_is_line) (defScope s_p_is_line) .none kV3 dc3 pm3 an3 cd3 ct3), sl3⟩)
    (c3 : PySem.W.codeIn K cd3 "is_line" = true) (k3 : PySem.W.keepIn K (.ref f3) = true)
    (a4 : PySem.W.nsIn K mainGlobals "is_wish" = some (some (.ref f4)))
    (l4 : K.lookup f4 = some ⟨oc4, od4, .func (PySem.W.fnOf "is_wish" "is_wish" (defArgs s_p_is_wish) (defBody s_p_is_wish) (defScope s_p_is_wish) .none kV4 dc4 pm4 an4 cd4 ct4), sl4⟩)
    (c4 : PySem.W.codeIn K cd4 "is_wish" = true) (k4 : PySem.W.keepIn K (.ref f4) = true)
    (a5 : PySem.W.nsIn K mainGlobals "is_letters" = some (some (.ref f5)))
    (l5 : K.lookup f5 = some ⟨oc5, od5, .func (PySem.W.fnOf "is_letters" "is_letters" (defArgs s_p_is_letters) (defBody s_p_is_letters) (defScope s_p_is_letters) .none kV5 dc5 pm5 an5 cd5 ct5), sl5⟩)
    (c5 : PySem.W.codeIn K cd5 "is_letters" = true) (k5 : PySem.W.keepIn K (.ref f5) = true)
    (a6 : PySem.W.nsIn K mainGlobals "is_name" = some (some (.ref f6)))
    (l6 : K.lookup f6 = some ⟨oc6, od6, .func (PySem.W.fnOf "is_name" "is_name" (defArgs s_p_is_name) (defBody s_p_is_name) (defScope s_p_is_name) .none kV6 dc6 pm6 an6 cd6 ct6), sl6⟩)
    (c6 : PySem.W.codeIn K cd6 "is_name" = true) (k6 : PySem.W.keepIn K (.ref f6) = true)
    (a7 : PySem.W.nsIn K mainGlobals "look_at_names" = some (some (.ref f7)))
    (l7 : K.lookup f7 = some ⟨oc7, od7, .func (PySem.W.fnOf "look_at_names" "look_at_names" (defArgs s_p_look_at_names) (defBody s_p_look_at_names) (defScope s_p_look_at_names) .none kV7 dc7 pm7 an7 cd7 ct7), sl7⟩)
    (c7 : PySem.W.codeIn K cd7 "look_at_names" = true) (k7 : PySem.W.keepIn K (.ref f7) = true)
    (a8 : PySem.W.nsIn K mainGlobals "is_wishes" = some (some (.ref f8)))
    (l8 : K.lookup f8 = some ⟨oc8, od8, .func (PySem.W.fnOf "is_wishes" "is_wishes" (defArgs s_p_is_wishes) (defBody s_p_is_wishes) (defScope s_p_is_wishes) .none kV8 dc8 pm8 an8 cd8 ct8), sl8⟩)
    (c8 : PySem.W.codeIn K cd8 "is_wishes" = true) (k8 : PySem.W.keepIn K (.ref f8) = true)
    (a9 : PySem.W.nsIn K mainGlobals "is_row" = some (some (.ref f9)))
    (l9 : K.lookup f9 = some ⟨oc9, od9, .func (PySem.W.fnOf "is_row" "is_row" (defArgs s_p_is_row) (defBody s_p_is_row) (defScope s_p_is_row) .none kV9 dc9 pm9 an9 cd9 ct9), sl9⟩)
    (c9 : PySem.W.codeIn K cd9 "is_row" = true) (k9 : PySem.W.keepIn K (.ref f9) = true)
    (a10 : PySem.W.nsIn K mainGlobals "look_at_rows" = some (some (.ref f10)))
    (l10 : K.lookup f10 = some ⟨oc10, od10, .func (PySem.W.fnOf "look_at_rows" "look_at_rows" (defArgs s_p_look_at_rows) (defBody s_p_look_at_rows) (defScope s_p_look_at_rows) .none kV10 dc10 pm10 an10 cd10 ct10), sl10⟩)
    (c10 : PySem.W.codeIn K cd10 "look_at_rows" = true) (k10 : PySem.W.keepIn K (.ref f10) = true)
    (a11 : PySem.W.nsIn K mainGlobals "look_at" = some (some (.ref f11)))
    (l11 : K.lookup f11 = some ⟨oc11, od11, .func (PySem.W.fnOf "look_at" "look_at" (defArgs s_p_look_at) (defBody s_p_look_at) (defScope s_p_look_at) .none kV11 dc11 pm11 an11 cd11 ct11), sl11⟩)
    (c11 : PySem.W.codeIn K cd11 "look_at" = true) (k11 : PySem.W.keepIn K (.ref f11) = true)
    (a12 : PySem.W.nsIn K mainGlobals "copied_wishes" = some (some (.ref f12)))
    (l12 : K.lookup f12 = some ⟨oc12, od12, .func (PySem.W.fnOf "copied_wishes" "copied_wishes" (defArgs s_p_copied_wishes) (defBody s_p_copied_wishes) (defScope s_p_copied_wishes) .none kV12 dc12 pm12 an12 cd12 ct12), sl12⟩)
    (c12 : PySem.W.codeIn K cd12 "copied_wishes" = true) (k12 : PySem.W.keepIn K (.ref f12) = true)
    (a13 : PySem.W.nsIn K mainGlobals "copied_rows" = some (some (.ref f13)))
    (l13 : K.lookup f13 = some ⟨oc13, od13, .func (PySem.W.fnOf "copied_rows" "copied_rows" (defArgs s_p_copied_rows) (defBody s_p_copied_rows) (defScope s_p_copied_rows) .none kV13 dc13 pm13 an13 cd13 ct13), sl13⟩)
    (c13 : PySem.W.codeIn K cd13 "copied_rows" = true) (k13 : PySem.W.keepIn K (.ref f13) = true)
    (a14 : PySem.W.nsIn K mainGlobals "look_at_most" = some (some (.ref f14)))
    (l14 : K.lookup f14 = some ⟨oc14, od14, .func (PySem.W.fnOf "look_at_most" "look_at_most" (defArgs s_p_look_at_most) (defBody s_p_look_at_most) (defScope s_p_look_at_most) .none kV14 dc14 pm14 an14 cd14 ct14), sl14⟩)
    (c14 : PySem.W.codeIn K cd14 "look_at_most" = true) (k14 : PySem.W.keepIn K (.ref f14) = true)
    (a15 : PySem.W.nsIn K mainGlobals "beside" = some (some (.ref f15)))
    (l15 : K.lookup f15 = some ⟨oc15, od15, .func (PySem.W.fnOf "beside" "beside" (defArgs s_p_beside) (defBody s_p_beside) (defScope s_p_beside) .none (.ref kd15) dc15 pm15 an15 cd15 ct15), sl15⟩)
    (v15_0 : PySem.W.nsIn K kd15 "places" = some (some (.int (6) kk15_0)))
    (v15_1 : PySem.W.nsIn K kd15 "rows" = some (some (.int (10) kk15_1)))
    (c15 : PySem.W.codeIn K cd15 "beside" = true) (k15 : PySem.W.keepIn K (.ref f15) = true)
    (a16 : PySem.W.nsIn K mainGlobals "_law_pool" = some (some (.ref f16)))
    (l16 : K.lookup f16 = some ⟨oc16, od16, .func (PySem.W.fnOf "_law_pool" "_law_pool" (defArgs s_L_pool) (defBody s_L_pool) (defScope s_L_pool) .none kV16 dc16 pm16 an16 cd16 ct16), sl16⟩)
    (c16 : PySem.W.codeIn K cd16 "_law_pool" = true) (k16 : PySem.W.keepIn K (.ref f16) = true)
    (a17 : PySem.W.nsIn K mainGlobals "_law_take" = some (some (.ref f17)))
    (l17 : K.lookup f17 = some ⟨oc17, od17, .func (PySem.W.fnOf "_law_take" "_law_take" (defArgs s_L_take) (defBody s_L_take) (defScope s_L_take) .none kV17 dc17 pm17 an17 cd17 ct17), sl17⟩)
    (c17 : PySem.W.codeIn K cd17 "_law_take" = true) (k17 : PySem.W.keepIn K (.ref f17) = true)
    (a18 : PySem.W.nsIn K mainGlobals "_law_names" = some (some (.ref f18)))
    (l18 : K.lookup f18 = some ⟨oc18, od18, .func (PySem.W.fnOf "_law_names" "_law_names" (defArgs s_L_names) (defBody s_L_names) (defScope s_L_names) .none kV18 dc18 pm18 an18 cd18 ct18), sl18⟩)
    (c18 : PySem.W.codeIn K cd18 "_law_names" = true) (k18 : PySem.W.keepIn K (.ref f18) = true)
    (a19 : PySem.W.nsIn K mainGlobals "_law_factor" = some (some (.ref f19)))
    (l19 : K.lookup f19 = some ⟨oc19, od19, .func (PySem.W.fnOf "_law_factor" "_law_factor" (defArgs s_L_factor) (defBody s_L_factor) (defScope s_L_factor) .none kV19 dc19 pm19 an19 cd19 ct19), sl19⟩)
    (c19 : PySem.W.codeIn K cd19 "_law_factor" = true) (k19 : PySem.W.keepIn K (.ref f19) = true)
    (a20 : PySem.W.nsIn K mainGlobals "_law_line" = some (some (.ref f20)))
    (l20 : K.lookup f20 = some ⟨oc20, od20, .func (PySem.W.fnOf "_law_line" "_law_line" (defArgs s_L_line) (defBody s_L_line) (defScope s_L_line) .none kV20 dc20 pm20 an20 cd20 ct20), sl20⟩)
    (c20 : PySem.W.codeIn K cd20 "_law_line" = true) (k20 : PySem.W.keepIn K (.ref f20) = true)
    (a21 : PySem.W.nsIn K mainGlobals "_law_wishes" = some (some (.ref f21)))
    (l21 : K.lookup f21 = some ⟨oc21, od21, .func (PySem.W.fnOf "_law_wishes" "_law_wishes" (defArgs s_L_wishes) (defBody s_L_wishes) (defScope s_L_wishes) .none kV21 dc21 pm21 an21 cd21 ct21), sl21⟩)
    (c21 : PySem.W.codeIn K cd21 "_law_wishes" = true) (k21 : PySem.W.keepIn K (.ref f21) = true)
    (a22 : PySem.W.nsIn K mainGlobals "_law_program" = some (some (.ref f22)))
    (l22 : K.lookup f22 = some ⟨oc22, od22, .func (PySem.W.fnOf "_law_program" "_law_program" (defArgs s_L_program) (defBody s_L_program) (defScope s_L_program) .none kV22 dc22 pm22 an22 cd22 ct22), sl22⟩)
    (c22 : PySem.W.codeIn K cd22 "_law_program" = true) (k22 : PySem.W.keepIn K (.ref f22) = true)
    (a23 : PySem.W.nsIn K mainGlobals "_law_due" = some (some (.ref f23)))
    (l23 : K.lookup f23 = some ⟨oc23, od23, .func (PySem.W.fnOf "_law_due" "_law_due" (defArgs s_L_due) (defBody s_L_due) (defScope s_L_due) .none kV23 dc23 pm23 an23 cd23 ct23), sl23⟩)
    (c23 : PySem.W.codeIn K cd23 "_law_due" = true) (k23 : PySem.W.keepIn K (.ref f23) = true)
    (a24 : PySem.W.nsIn K mainGlobals "_law_told" = some (some (.ref f24)))
    (l24 : K.lookup f24 = some ⟨oc24, od24, .func (PySem.W.fnOf "_law_told" "_law_told" (defArgs s_L_told) (defBody s_L_told) (defScope s_L_told) .none kV24 dc24 pm24 an24 cd24 ct24), sl24⟩)
    (c24 : PySem.W.codeIn K cd24 "_law_told" = true) (k24 : PySem.W.keepIn K (.ref f24) = true)
    (a25 : PySem.W.nsIn K mainGlobals "_law_apart" = some (some (.ref f25)))
    (l25 : K.lookup f25 = some ⟨oc25, od25, .func (PySem.W.fnOf "_law_apart" "_law_apart" (defArgs s_L_apart) (defBody s_L_apart) (defScope s_L_apart) .none kV25 dc25 pm25 an25 cd25 ct25), sl25⟩)
    (c25 : PySem.W.codeIn K cd25 "_law_apart" = true) (k25 : PySem.W.keepIn K (.ref f25) = true)
    (a26 : PySem.W.nsIn K mainGlobals "_law_pair" = some (some (.ref f26)))
    (l26 : K.lookup f26 = some ⟨oc26, od26, .func (PySem.W.fnOf "_law_pair" "_law_pair" (defArgs s_L_pair) (defBody s_L_pair) (defScope s_L_pair) .none kV26 dc26 pm26 an26 cd26 ct26), sl26⟩)
    (c26 : PySem.W.codeIn K cd26 "_law_pair" = true) (k26 : PySem.W.keepIn K (.ref f26) = true)
    (a27 : PySem.W.nsIn K mainGlobals "_law_right" = some (some (.ref f27)))
    (l27 : K.lookup f27 = some ⟨oc27, od27, .func (PySem.W.fnOf "_law_right" "_law_right" (defArgs s_L_right) (defBody s_L_right) (defScope s_L_right) .none kV27 dc27 pm27 an27 cd27 ct27), sl27⟩)
    (c27 : PySem.W.codeIn K cd27 "_law_right" = true) (k27 : PySem.W.keepIn K (.ref f27) = true)
    (a28 : PySem.W.nsIn K mainGlobals "law" = some (some (.ref f28)))
    (l28 : K.lookup f28 = some ⟨oc28, od28, .func (PySem.W.fnOf "law" "law" (defArgs s_L_law) (defBody s_L_law) (defScope s_L_law) .none kV28 dc28 pm28 an28 cd28 ct28), sl28⟩)
    (c28 : PySem.W.codeIn K cd28 "law" = true) (k28 : PySem.W.keepIn K (.ref f28) = true)
    (z_OverflowError : PySem.W.nsIn K mainGlobals "OverflowError" = some none)
    (z_all : PySem.W.nsIn K mainGlobals "all" = some none)
    (z_any : PySem.W.nsIn K mainGlobals "any" = some none)
    (z_bool : PySem.W.nsIn K mainGlobals "bool" = some none)
    (z_enumerate : PySem.W.nsIn K mainGlobals "enumerate" = some none)
    (z_int : PySem.W.nsIn K mainGlobals "int" = some none)
    (z_isinstance : PySem.W.nsIn K mainGlobals "isinstance" = some none)
    (z_len : PySem.W.nsIn K mainGlobals "len" = some none)
    (z_list : PySem.W.nsIn K mainGlobals "list" = some none)
    (z_max : PySem.W.nsIn K mainGlobals "max" = some none)
    (z_min : PySem.W.nsIn K mainGlobals "min" = some none)
    (z_range : PySem.W.nsIn K mainGlobals "range" = some none)
    (z_repr : PySem.W.nsIn K mainGlobals "repr" = some none)
    (z_str : PySem.W.nsIn K mainGlobals "str" = some none)
    (z_sum : PySem.W.nsIn K mainGlobals "sum" = some none)
    (z_tuple : PySem.W.nsIn K mainGlobals "tuple" = some none)
    (x_JUST : PySem.W.nsIn K mainGlobals "JUST" = some (some (.str "just" tk_JUST)))
    (x_LEAST : PySem.W.nsIn K mainGlobals "LEAST" = some (some (.str "least" tk_LEAST)))
    (x_LETTERS : PySem.W.nsIn K mainGlobals "LETTERS" = some (some (.str "abcdefghijklmnopqrstuvwxyz" tk_LETTERS)))
    (x_LONGEST_NAME : PySem.W.nsIn K mainGlobals "LONGEST_NAME" = some (some (.int (6) tk_LONGEST_NAME)))
    (x_MOST_NAMES : PySem.W.nsIn K mainGlobals "MOST_NAMES" = some (some (.int (3) tk_MOST_NAMES)))
    (x_MOST_NUMBERS : PySem.W.nsIn K mainGlobals "MOST_NUMBERS" = some (some (.int (8) tk_MOST_NUMBERS)))
    (x_MOST_PLACES : PySem.W.nsIn K mainGlobals "MOST_PLACES" = some (some (.int (6) tk_MOST_PLACES)))
    (x_MOST_ROWS : PySem.W.nsIn K mainGlobals "MOST_ROWS" = some (some (.int (10) tk_MOST_ROWS)))
    (x_MOST_WISHES : PySem.W.nsIn K mainGlobals "MOST_WISHES" = some (some (.int (12) tk_MOST_WISHES)))
    (hx_NoNumber : PySem.W.nsIn K mainGlobals "NoNumber" = some (some (.ref ec_NoNumber)))
    (hk_NoNumber : PySem.W.keepIn K (.ref ec_NoNumber) = true)
    (hs_NoNumber : PySem.W.subIn K (.ref ec_NoNumber) (.type "BaseException") = some true)
    (ht_NoNumber : PySem.W.typeIn K (.ref ec_NoNumber) = some (.type "type"))
    (y0_NoNumber : PySem.W.findIn K (.ref ec_NoNumber) "__getattribute__" = some (some (.builtin "BaseException.__getattribute__")))
    (y1_NoNumber : PySem.W.findIn K (.ref ec_NoNumber) "__getattr__" = some none)
    (y2_NoNumber : PySem.W.hasDictIn K ec_NoNumber = true)
    (y3_NoNumber : PySem.W.findIn K (.ref ec_NoNumber) "__class__" = some (some (.builtin "object.__class__")))
    (y4_NoNumber : PySem.W.specialIn K (.builtin "object.__class__") "__get__" = some (some (.builtin "getset_descriptor.__get__")))
    (y5_NoNumber : PySem.W.takesIn K (.builtin "object.__class__") = some true)
    (y6_NoNumber : PySem.W.mroIn K ec_NoNumber (.type "object") = some true)
    (i0_NoNumber : PySem.W.findIn K (.ref ec_NoNumber) "__init__" = some (some (.ref fi_NoNumber)))
    (i1_NoNumber : K.lookup fi_NoNumber = some ⟨ioc_NoNumber, iod_NoNumber, .func (PySem.W.ksFn "__init__" "NoNumber.__init__" (defArgs (clsInit s_NoNumber)) (defBody (clsInit s_NoNumber)) (defScope (clsInit s_NoNumber)) .none ikV_NoNumber idc_NoNumber ipm_NoNumber ian_NoNumber (.ref icd_NoNumber) ict_NoNumber icc_NoNumber), isl_NoNumber⟩)
    (i2_NoNumber : PySem.W.codeIn K (.ref icd_NoNumber) "NoNumber.__init__" = true)
    (i3_NoNumber : PySem.W.isFn K (.ref fi_NoNumber) = true)
    (i4_NoNumber : PySem.W.excInitIn K ec_NoNumber bm_ValueError "ValueError.__new__" = true)
    (i5_NoNumber : PySem.W.excOver K ec_NoNumber bm_ValueError = true)
    (i6_NoNumber : PySem.W.findIn K (.ref ec_NoNumber) "__setattr__" = some (some (.builtin "object.__setattr__")))
    (i7_NoNumber : PySem.W.ks_superIn K ec_NoNumber ec_NoNumber "__init__" = some (some (.builtin "ValueError.__init__")))
    (i8_NoNumber : PySem.W.mroIn K ec_NoNumber (.ref ec_NoNumber) = some true)
    (i9_NoNumber : PySem.W.subIn K (.ref ec_NoNumber) (.type "ValueError") = some true)
    (ia_NoNumber : K.lookup icc_NoNumber = some ⟨jcl_NoNumber, jcd_NoNumber, .cell (some (.ref ec_NoNumber)), jcs_NoNumber⟩)
    (ib_NoNumber : K.lookup icd_NoNumber = some ⟨kcl_NoNumber, kcd_NoNumber, .fields kvs_NoNumber, kcs_NoNumber⟩)
    (ic_NoNumber : kvs_NoNumber[2]? = some (.str kfl_NoNumber kft_NoNumber))
    (id_NoNumber : ((l.prog.main.file : Str) == kfl_NoNumber) = true)
    (ie_NoNumber_thing : PySem.W.takerIn K ec_NoNumber "thing" = some none)
    (hx_NoProgram : PySem.W.nsIn K mainGlobals "NoProgram" = some (some (.ref ec_NoProgram)))
    (hk_NoProgram : PySem.W.keepIn K (.ref ec_NoProgram) = true)
    (hs_NoProgram : PySem.W.subIn K (.ref ec_NoProgram) (.type "BaseException") = some true)
    (ht_NoProgram : PySem.W.typeIn K (.ref ec_NoProgram) = some (.type "type"))
    (y0_NoProgram : PySem.W.findIn K (.ref ec_NoProgram) "__getattribute__" = some (some (.builtin "BaseException.__getattribute__")))
    (y1_NoProgram : PySem.W.findIn K (.ref ec_NoProgram) "__getattr__" = some none)
    (y2_NoProgram : PySem.W.hasDictIn K ec_NoProgram = true)
    (y3_NoProgram : PySem.W.findIn K (.ref ec_NoProgram) "__class__" = some (some (.builtin "object.__class__")))
    (y4_NoProgram : PySem.W.specialIn K (.builtin "object.__class__") "__get__" = some (some (.builtin "getset_descriptor.__get__")))
    (y5_NoProgram : PySem.W.takesIn K (.builtin "object.__class__") = some true)
    (y6_NoProgram : PySem.W.mroIn K ec_NoProgram (.type "object") = some true)
    (hx_TooMany : PySem.W.nsIn K mainGlobals "TooMany" = some (some (.ref ec_TooMany)))
    (hk_TooMany : PySem.W.keepIn K (.ref ec_TooMany) = true)
    (hs_TooMany : PySem.W.subIn K (.ref ec_TooMany) (.type "BaseException") = some true)
    (ht_TooMany : PySem.W.typeIn K (.ref ec_TooMany) = some (.type "type"))
    (y0_TooMany : PySem.W.findIn K (.ref ec_TooMany) "__getattribute__" = some (some (.builtin "BaseException.__getattribute__")))
    (y1_TooMany : PySem.W.findIn K (.ref ec_TooMany) "__getattr__" = some none)
    (y2_TooMany : PySem.W.hasDictIn K ec_TooMany = true)
    (y3_TooMany : PySem.W.findIn K (.ref ec_TooMany) "__class__" = some (some (.builtin "object.__class__")))
    (y4_TooMany : PySem.W.specialIn K (.builtin "object.__class__") "__get__" = some (some (.builtin "getset_descriptor.__get__")))
    (y5_TooMany : PySem.W.takesIn K (.builtin "object.__class__") = some true)
    (y6_TooMany : PySem.W.mroIn K ec_TooMany (.type "object") = some true)
    (hq_TooMany : PySem.W.excIn K ec_TooMany bm_OverflowError "OverflowError.__new__" = true)
    (hx_Unlike : PySem.W.nsIn K mainGlobals "Unlike" = some (some (.ref ec_Unlike)))
    (hk_Unlike : PySem.W.keepIn K (.ref ec_Unlike) = true)
    (hs_Unlike : PySem.W.subIn K (.ref ec_Unlike) (.type "BaseException") = some true)
    (ht_Unlike : PySem.W.typeIn K (.ref ec_Unlike) = some (.type "type"))
    (y0_Unlike : PySem.W.findIn K (.ref ec_Unlike) "__getattribute__" = some (some (.builtin "BaseException.__getattribute__")))
    (y1_Unlike : PySem.W.findIn K (.ref ec_Unlike) "__getattr__" = some none)
    (y2_Unlike : PySem.W.hasDictIn K ec_Unlike = true)
    (y3_Unlike : PySem.W.findIn K (.ref ec_Unlike) "__class__" = some (some (.builtin "object.__class__")))
    (y4_Unlike : PySem.W.specialIn K (.builtin "object.__class__") "__get__" = some (some (.builtin "getset_descriptor.__get__")))
    (y5_Unlike : PySem.W.takesIn K (.builtin "object.__class__") = some true)
    (y6_Unlike : PySem.W.mroIn K ec_Unlike (.type "object") = some true)
    (hq_Unlike : PySem.W.excIn K ec_Unlike bm_ValueError "ValueError.__new__" = true)
    (hx_WeighError : PySem.W.nsIn K mainGlobals "WeighError" = some (some (.ref ec_WeighError)))
    (hk_WeighError : PySem.W.keepIn K (.ref ec_WeighError) = true)
    (hs_WeighError : PySem.W.subIn K (.ref ec_WeighError) (.type "BaseException") = some true)
    (ht_WeighError : PySem.W.typeIn K (.ref ec_WeighError) = some (.type "type"))
    (y0_WeighError : PySem.W.findIn K (.ref ec_WeighError) "__getattribute__" = some (some (.builtin "BaseException.__getattribute__")))
    (y1_WeighError : PySem.W.findIn K (.ref ec_WeighError) "__getattr__" = some none)
    (y2_WeighError : PySem.W.hasDictIn K ec_WeighError = true)
    (y3_WeighError : PySem.W.findIn K (.ref ec_WeighError) "__class__" = some (some (.builtin "object.__class__")))
    (y4_WeighError : PySem.W.specialIn K (.builtin "object.__class__") "__get__" = some (some (.builtin "getset_descriptor.__get__")))
    (y5_WeighError : PySem.W.takesIn K (.builtin "object.__class__") = some true)
    (y6_WeighError : PySem.W.mroIn K ec_WeighError (.type "object") = some true)
    (z_super : PySem.W.nsIn K mainGlobals "super" = some none)
    (zz_any : PySem.W.nsIn K cStatics "thirdparty.any" = some none)
    (z_top : (l.prog.main.scope.names.lookup ("super" : Str)).isSome = false)
    (ms_NoNumber_TooMany : PySem.W.subIn K (.ref ec_NoNumber) (.ref ec_TooMany) = some false)
    (ms_NoNumber_WeighError : PySem.W.subIn K (.ref ec_NoNumber) (.ref ec_WeighError) = some true)
    (ms_TooMany_TooMany : PySem.W.subIn K (.ref ec_TooMany) (.ref ec_TooMany) = some true)
    (ms_TooMany_WeighError : PySem.W.subIn K (.ref ec_TooMany) (.ref ec_WeighError) = some false)
    (ms_Unlike_TooMany : PySem.W.subIn K (.ref ec_Unlike) (.ref ec_TooMany) = some false)
    (ms_Unlike_WeighError : PySem.W.subIn K (.ref ec_Unlike) (.ref ec_WeighError) = some true)
    (mk_NoNumber : kitAll K (.ref ec_NoNumber) [(ec_NoNumber, true), (ec_Unlike, false), (ec_TooMany, false)] = true)
    (mk_NoProgram : kitAll K (.ref ec_NoProgram) [(ec_NoNumber, false), (ec_Unlike, false), (ec_TooMany, false)] = true)
    (mk_OverflowError : kitAll K (.type "OverflowError") [(ec_NoNumber, false), (ec_Unlike, false), (ec_TooMany, true)] = true)
    (mk_TooMany : kitAll K (.ref ec_TooMany) [(ec_NoNumber, false), (ec_Unlike, false), (ec_TooMany, true)] = true)
    (mk_Unlike : kitAll K (.ref ec_Unlike) [(ec_NoNumber, false), (ec_Unlike, true), (ec_TooMany, false)] = true)
    (mk_WeighError : kitAll K (.ref ec_WeighError) [(ec_NoNumber, true), (ec_Unlike, true), (ec_TooMany, false)] = true)
    (mf_NoNumber_thing : PySem.W.findIn K (.ref ec_NoNumber) "thing" = some none)
    : ∃ fd : FuncData, (∀ (s : Shared) (v : Value), BindsTo s fd ⟨[v], []⟩ [("_law_script", v)]) ∧
      ∀ base : Heap, K.In base → base.Ns mainGlobals mg → FnG l.prog w K mg base 12 fa fd ["_law_script"] (spD K sp_L_law) := by
  have e := hfa.symm.trans (PySem.W.mg_of X G a28)
  cases e
  have F0 := fun_mk (st := s_p_is_whole) l0 c0 k0
  have F1 := fun_mk (st := s_p_is_one_of) l1 c1 k1
  have F2 := fun_mk (st := s_p_look_at_many) l2 c2 k2
  have F3 := fun_mk (st := s_p_is_line) l3 c3 k3
  have F4 := fun_mk (st := s_p_is_wish) l4 c4 k4
  have F5 := fun_mk (st := s_p_is_letters) l5 c5 k5
  have F6 := fun_mk (st := s_p_is_name) l6 c6 k6
  have F7 := fun_mk (st := s_p_look_at_names) l7 c7 k7
  have F8 := fun_mk (st := s_p_is_wishes) l8 c8 k8
  have F9 := fun_mk (st := s_p_is_row) l9 c9 k9
  have F10 := fun_mk (st := s_p_look_at_rows) l10 c10 k10
  have F11 := fun_mk (st := s_p_look_at) l11 c11 k11
  have F12 := fun_mk (st := s_p_copied_wishes) l12 c12 k12
  have F13 := fun_mk (st := s_p_copied_rows) l13 c13 k13
  have F14 := fun_mk (st := s_p_look_at_most) l14 c14 k14
  have F15 : FunA K "beside" "beside" s_p_beside _ _ [] [("places", .int (6)), ("rows", .int (10))] := ⟨⟨_, _, _, _, _, _, _, _, _, _, rfl, l15, c15, .inl ⟨rfl, rfl⟩, .inr ⟨_, rfl, fun q hq => by simp only [List.mem_cons, List.not_mem_nil, or_false] at hq; rcases hq with rfl | rfl <;> first | exact ⟨_, v15_0, by first | rfl | exact ⟨_, rfl⟩⟩ | exact ⟨_, v15_1, by first | rfl | exact ⟨_, rfl⟩⟩⟩⟩, k15⟩
  have F16 := fun_mk (st := s_L_pool) l16 c16 k16
  have F17 := fun_mk (st := s_L_take) l17 c17 k17
  have F18 := fun_mk (st := s_L_names) l18 c18 k18
  have F19 := fun_mk (st := s_L_factor) l19 c19 k19
  have F20 := fun_mk (st := s_L_line) l20 c20 k20
  have F21 := fun_mk (st := s_L_wishes) l21 c21 k21
  have F22 := fun_mk (st := s_L_program) l22 c22 k22
  have F23 := fun_mk (st := s_L_due) l23 c23 k23
  have F24 := fun_mk (st := s_L_told) l24 c24 k24
  have F25 := fun_mk (st := s_L_apart) l25 c25 k25
  have F26 := fun_mk (st := s_L_pair) l26 c26 k26
  have F27 := fun_mk (st := s_L_right) l27 c27 k27
  have F28 := fun_mk (st := s_L_law) l28 c28 k28
  have xb_NoNumber : ExB K "NoNumber" ec_NoNumber := ⟨hx_NoNumber, hk_NoNumber, hs_NoNumber, ht_NoNumber, ⟨y0_NoNumber, y1_NoNumber, hs_NoNumber, y2_NoNumber, y3_NoNumber, y4_NoNumber, y5_NoNumber, y6_NoNumber⟩⟩
  have xb_NoProgram : ExB K "NoProgram" ec_NoProgram := ⟨hx_NoProgram, hk_NoProgram, hs_NoProgram, ht_NoProgram, ⟨y0_NoProgram, y1_NoProgram, hs_NoProgram, y2_NoProgram, y3_NoProgram, y4_NoProgram, y5_NoProgram, y6_NoProgram⟩⟩
  have xb_TooMany : ExB K "TooMany" ec_TooMany := ⟨hx_TooMany, hk_TooMany, hs_TooMany, ht_TooMany, ⟨y0_TooMany, y1_TooMany, hs_TooMany, y2_TooMany, y3_TooMany, y4_TooMany, y5_TooMany, y6_TooMany⟩⟩
  have xb_Unlike : ExB K "Unlike" ec_Unlike := ⟨hx_Unlike, hk_Unlike, hs_Unlike, ht_Unlike, ⟨y0_Unlike, y1_Unlike, hs_Unlike, y2_Unlike, y3_Unlike, y4_Unlike, y5_Unlike, y6_Unlike⟩⟩
  have xb_WeighError : ExB K "WeighError" ec_WeighError := ⟨hx_WeighError, hk_WeighError, hs_WeighError, ht_WeighError, ⟨y0_WeighError, y1_WeighError, hs_WeighError, y2_WeighError, y3_WeighError, y4_WeighError, y5_WeighError, y6_WeighError⟩⟩
  let T : Tx l.prog K mg := {
    n_OverflowError := PySem.W.mg_none_of X G z_OverflowError
    n_all := PySem.W.mg_none_of X G z_all
    n_any := PySem.W.mg_none_of X G z_any
    n_bool := PySem.W.mg_none_of X G z_bool
    n_enumerate := PySem.W.mg_none_of X G z_enumerate
    n_int := PySem.W.mg_none_of X G z_int
    n_isinstance := PySem.W.mg_none_of X G z_isinstance
    n_len := PySem.W.mg_none_of X G z_len
    n_list := PySem.W.mg_none_of X G z_list
    n_max := PySem.W.mg_none_of X G z_max
    n_min := PySem.W.mg_none_of X G z_min
    n_range := PySem.W.mg_none_of X G z_range
    n_repr := PySem.W.mg_none_of X G z_repr
    n_str := PySem.W.mg_none_of X G z_str
    n_sum := PySem.W.mg_none_of X G z_sum
    n_tuple := PySem.W.mg_none_of X G z_tuple
    u_JUST := tk_JUST
    c_JUST := PySem.W.mg_of X G x_JUST
    u_LEAST := tk_LEAST
    c_LEAST := PySem.W.mg_of X G x_LEAST
    u_LETTERS := tk_LETTERS
    c_LETTERS := PySem.W.mg_of X G x_LETTERS
    u_LONGEST_NAME := tk_LONGEST_NAME
    c_LONGEST_NAME := PySem.W.mg_of X G x_LONGEST_NAME
    u_MOST_NAMES := tk_MOST_NAMES
    c_MOST_NAMES := PySem.W.mg_of X G x_MOST_NAMES
    u_MOST_NUMBERS := tk_MOST_NUMBERS
    c_MOST_NUMBERS := PySem.W.mg_of X G x_MOST_NUMBERS
    u_MOST_PLACES := tk_MOST_PLACES
    c_MOST_PLACES := PySem.W.mg_of X G x_MOST_PLACES
    u_MOST_ROWS := tk_MOST_ROWS
    c_MOST_ROWS := PySem.W.mg_of X G x_MOST_ROWS
    u_MOST_WISHES := tk_MOST_WISHES
    c_MOST_WISHES := PySem.W.mg_of X G x_MOST_WISHES
    e_NoNumber := ec_NoNumber
    gx_NoNumber := PySem.W.mg_of X G hx_NoNumber
    x_NoNumber := xb_NoNumber
    fi_NoNumber := fi_NoNumber
    cc_NoNumber := icc_NoNumber
    cd_NoNumber := icd_NoNumber
    fd_NoNumber := _
    i_NoNumber := ⟨hx_NoNumber, hk_NoNumber, hs_NoNumber, i9_NoNumber, ht_NoNumber, i0_NoNumber, i3_NoNumber, i4_NoNumber, i5_NoNumber, i6_NoNumber, y2_NoNumber, i7_NoNumber, i8_NoNumber, fun f hf => by simp only [List.mem_cons, List.not_mem_nil, or_false] at hf; subst hf; exact ie_NoNumber_thing, ⟨_, _, _, ia_NoNumber⟩, ⟨_, _, _, _, _, _, ib_NoNumber, ic_NoNumber, id_NoNumber⟩, z_super, zz_any, z_top⟩
    j_NoNumber := initF_mk it_NoNumber i1_NoNumber i2_NoNumber
    e_NoProgram := ec_NoProgram
    gx_NoProgram := PySem.W.mg_of X G hx_NoProgram
    x_NoProgram := xb_NoProgram
    e_TooMany := ec_TooMany
    gx_TooMany := PySem.W.mg_of X G hx_TooMany
    x_TooMany := xb_TooMany
    q_TooMany := ⟨hx_TooMany, hq_TooMany, hk_TooMany, hs_TooMany, ht_TooMany, ⟨y0_TooMany, y1_TooMany, hs_TooMany, y2_TooMany, y3_TooMany, y4_TooMany, y5_TooMany, y6_TooMany⟩⟩
    e_Unlike := ec_Unlike
    gx_Unlike := PySem.W.mg_of X G hx_Unlike
    x_Unlike := xb_Unlike
    q_Unlike := ⟨hx_Unlike, hq_Unlike, hk_Unlike, hs_Unlike, ht_Unlike, ⟨y0_Unlike, y1_Unlike, hs_Unlike, y2_Unlike, y3_Unlike, y4_Unlike, y5_Unlike, y6_Unlike⟩⟩
    e_WeighError := ec_WeighError
    gx_WeighError := PySem.W.mg_of X G hx_WeighError
    x_WeighError := xb_WeighError
    m_NoNumber_TooMany := ms_NoNumber_TooMany
    m_NoNumber_WeighError := ms_NoNumber_WeighError
    m_TooMany_TooMany := ms_TooMany_TooMany
    m_TooMany_WeighError := ms_TooMany_WeighError
    m_Unlike_TooMany := ms_Unlike_TooMany
    m_Unlike_WeighError := ms_Unlike_WeighError
    kt_NoNumber := mlK_c xb_NoNumber (mlK_c xb_Unlike (mlK_c xb_TooMany (mlK_n))) mk_NoNumber
    kt_NoProgram := mlK_c xb_NoNumber (mlK_c xb_Unlike (mlK_c xb_TooMany (mlK_n))) mk_NoProgram
    kt_OverflowError := mlK_c xb_NoNumber (mlK_c xb_Unlike (mlK_c xb_TooMany (mlK_n))) mk_OverflowError
    kt_TooMany := mlK_c xb_NoNumber (mlK_c xb_Unlike (mlK_c xb_TooMany (mlK_n))) mk_TooMany
    kt_Unlike := mlK_c xb_NoNumber (mlK_c xb_Unlike (mlK_c xb_TooMany (mlK_n))) mk_Unlike
    kt_WeighError := mlK_c xb_NoNumber (mlK_c xb_Unlike (mlK_c xb_TooMany (mlK_n))) mk_WeighError
    f_NoNumber_thing := mf_NoNumber_thing
    f_p_is_whole := f0
    d_p_is_whole := _
    F_p_is_whole := F0
    g_p_is_whole := PySem.W.mg_of X G a0
    f_p_is_one_of := f1
    d_p_is_one_of := _
    F_p_is_one_of := F1
    g_p_is_one_of := PySem.W.mg_of X G a1
    f_p_look_at_many := f2
    d_p_look_at_many := _
    F_p_look_at_many := F2
    g_p_look_at_many := PySem.W.mg_of X G a2
    f_p_is_line := f3
    d_p_is_line := _
    F_p_is_line := F3
    g_p_is_line := PySem.W.mg_of X G a3
    f_p_is_wish := f4
    d_p_is_wish := _
    F_p_is_wish := F4
    g_p_is_wish := PySem.W.mg_of X G a4
    f_p_is_letters := f5
    d_p_is_letters := _
    F_p_is_letters := F5
    g_p_is_letters := PySem.W.mg_of X G a5
    f_p_is_name := f6
    d_p_is_name := _
    F_p_is_name := F6
    g_p_is_name := PySem.W.mg_of X G a6
    f_p_look_at_names := f7
    d_p_look_at_names := _
    F_p_look_at_names := F7
    g_p_look_at_names := PySem.W.mg_of X G a7
    f_p_is_wishes := f8
    d_p_is_wishes := _
    F_p_is_wishes := F8
    g_p_is_wishes := PySem.W.mg_of X G a8
    f_p_is_row := f9
    d_p_is_row := _
    F_p_is_row := F9
    g_p_is_row := PySem.W.mg_of X G a9
    f_p_look_at_rows := f10
    d_p_look_at_rows := _
    F_p_look_at_rows := F10
    g_p_look_at_rows := PySem.W.mg_of X G a10
    f_p_look_at := f11
    d_p_look_at := _
    F_p_look_at := F11
    g_p_look_at := PySem.W.mg_of X G a11
    f_p_copied_wishes := f12
    d_p_copied_wishes := _
    F_p_copied_wishes := F12
    g_p_copied_wishes := PySem.W.mg_of X G a12
    f_p_copied_rows := f13
    d_p_copied_rows := _
    F_p_copied_rows := F13
    g_p_copied_rows := PySem.W.mg_of X G a13
    f_p_look_at_most := f14
    d_p_look_at_most := _
    F_p_look_at_most := F14
    g_p_look_at_most := PySem.W.mg_of X G a14
    f_p_beside := f15
    d_p_beside := _
    F_p_beside := F15
    g_p_beside := PySem.W.mg_of X G a15
    f_L_pool := f16
    d_L_pool := _
    F_L_pool := F16
    g_L_pool := PySem.W.mg_of X G a16
    f_L_take := f17
    d_L_take := _
    F_L_take := F17
    g_L_take := PySem.W.mg_of X G a17
    f_L_names := f18
    d_L_names := _
    F_L_names := F18
    g_L_names := PySem.W.mg_of X G a18
    f_L_factor := f19
    d_L_factor := _
    F_L_factor := F19
    g_L_factor := PySem.W.mg_of X G a19
    f_L_line := f20
    d_L_line := _
    F_L_line := F20
    g_L_line := PySem.W.mg_of X G a20
    f_L_wishes := f21
    d_L_wishes := _
    F_L_wishes := F21
    g_L_wishes := PySem.W.mg_of X G a21
    f_L_program := f22
    d_L_program := _
    F_L_program := F22
    g_L_program := PySem.W.mg_of X G a22
    f_L_due := f23
    d_L_due := _
    F_L_due := F23
    g_L_due := PySem.W.mg_of X G a23
    f_L_told := f24
    d_L_told := _
    F_L_told := F24
    g_L_told := PySem.W.mg_of X G a24
    f_L_apart := f25
    d_L_apart := _
    F_L_apart := F25
    g_L_apart := PySem.W.mg_of X G a25
    f_L_pair := f26
    d_L_pair := _
    F_L_pair := F26
    g_L_pair := PySem.W.mg_of X G a26
    f_L_right := f27
    d_L_right := _
    F_L_right := F27
    g_L_right := PySem.W.mg_of X G a27
    f_L_law := fa
    d_L_law := _
    F_L_law := F28
    g_L_law := PySem.W.mg_of X G a28
    b_L_apart_1 := bnd_of F25 fun _ _ _ _ _ _ us ws h1 h2 => match us, ws, h1, h2 with | [_], [], _, _ => rfl
    b_L_due_4 := bnd_of F23 fun _ _ _ _ _ _ us ws h1 h2 => match us, ws, h1, h2 with | [_, _, _, _], [], _, _ => rfl
    b_L_factor_1 := bnd_of F19 fun _ _ _ _ _ _ us ws h1 h2 => match us, ws, h1, h2 with | [_], [], _, _ => rfl
    b_L_line_2 := bnd_of F20 fun _ _ _ _ _ _ us ws h1 h2 => match us, ws, h1, h2 with | [_, _], [], _, _ => rfl
    b_L_names_3 := bnd_of F18 fun _ _ _ _ _ _ us ws h1 h2 => match us, ws, h1, h2 with | [_, _, _], [], _, _ => rfl
    b_L_pair_1 := bnd_of F26 fun _ _ _ _ _ _ us ws h1 h2 => match us, ws, h1, h2 with | [_], [], _, _ => rfl
    b_L_pool_2 := bnd_of F16 fun _ _ _ _ _ _ us ws h1 h2 => match us, ws, h1, h2 with | [_, _], [], _, _ => rfl
    b_L_program_3 := bnd_of F22 fun _ _ _ _ _ _ us ws h1 h2 => match us, ws, h1, h2 with | [_, _, _], [], _, _ => rfl
    b_L_right_4 := bnd_of F27 fun _ _ _ _ _ _ us ws h1 h2 => match us, ws, h1, h2 with | [_, _, _, _], [], _, _ => rfl
    b_L_take_2 := bnd_of F17 fun _ _ _ _ _ _ us ws h1 h2 => match us, ws, h1, h2 with | [_, _], [], _, _ => rfl
    b_L_told_4 := bnd_of F24 fun _ _ _ _ _ _ us ws h1 h2 => match us, ws, h1, h2 with | [_, _, _, _], [], _, _ => rfl
    b_L_wishes_3 := bnd_of F21 fun _ _ _ _ _ _ us ws h1 h2 => match us, ws, h1, h2 with | [_, _, _], [], _, _ => rfl
    b_p_beside_0_other_rows_one_places := bndA_kw F15 [] (by simp) (by decide) fun _ _ _ _ _ _ us ws mv h1 h2 h3 => match us, ws, mv, h1, h2, h3 with | [], [_, _, _, _], [], _, _, _ => rfl
    b_p_beside_2 := bndA_kw F15 [("places", .int (6)), ("rows", .int (10))] (by simp) (by decide) fun _ _ _ _ _ _ us ws mv h1 h2 h3 => match us, ws, mv, h1, h2, h3 with | [_, _], [], [_, _], _, _, _ => ⟨_, _, _, _, _, _, rfl, rfl, ⟨_, _, _, _, _, _, rfl, rfl, rfl⟩⟩
    b_p_copied_rows_1 := bnd_of F13 fun _ _ _ _ _ _ us ws h1 h2 => match us, ws, h1, h2 with | [_], [], _, _ => rfl
    b_p_copied_wishes_1 := bnd_of F12 fun _ _ _ _ _ _ us ws h1 h2 => match us, ws, h1, h2 with | [_], [], _, _ => rfl
    b_p_is_letters_2 := bnd_of F5 fun _ _ _ _ _ _ us ws h1 h2 => match us, ws, h1, h2 with | [_, _], [], _, _ => rfl
    b_p_is_line_2 := bnd_of F3 fun _ _ _ _ _ _ us ws h1 h2 => match us, ws, h1, h2 with | [_, _], [], _, _ => rfl
    b_p_is_name_1 := bnd_of F6 fun _ _ _ _ _ _ us ws h1 h2 => match us, ws, h1, h2 with | [_], [], _, _ => rfl
    b_p_is_one_of_2 := bnd_of F1 fun _ _ _ _ _ _ us ws h1 h2 => match us, ws, h1, h2 with | [_, _], [], _, _ => rfl
    b_p_is_row_3 := bnd_of F9 fun _ _ _ _ _ _ us ws h1 h2 => match us, ws, h1, h2 with | [_, _, _], [], _, _ => rfl
    b_p_is_whole_1 := bnd_of F0 fun _ _ _ _ _ _ us ws h1 h2 => match us, ws, h1, h2 with | [_], [], _, _ => rfl
    b_p_is_wish_2 := bnd_of F4 fun _ _ _ _ _ _ us ws h1 h2 => match us, ws, h1, h2 with | [_, _], [], _, _ => rfl
    b_p_is_wishes_2 := bnd_of F8 fun _ _ _ _ _ _ us ws h1 h2 => match us, ws, h1, h2 with | [_, _], [], _, _ => rfl
    b_p_look_at_1 := bnd_of F11 fun _ _ _ _ _ _ us ws h1 h2 => match us, ws, h1, h2 with | [_], [], _, _ => rfl
    b_p_look_at_many_1 := bnd_of F2 fun _ _ _ _ _ _ us ws h1 h2 => match us, ws, h1, h2 with | [_], [], _, _ => rfl
    b_p_look_at_most_2 := bnd_of F14 fun _ _ _ _ _ _ us ws h1 h2 => match us, ws, h1, h2 with | [_, _], [], _, _ => rfl
    b_p_look_at_names_3 := bnd_of F7 fun _ _ _ _ _ _ us ws h1 h2 => match us, ws, h1, h2 with | [_, _, _], [], _, _ => rfl
    b_p_look_at_rows_3 := bnd_of F10 fun _ _ _ _ _ _ us ws h1 h2 => match us, ws, h1, h2 with | [_, _, _], [], _, _ => rfl }
  exact ⟨_, fun s v => .of_eq rfl, fun base _ _ => ok_L_law (base := base) T⟩
end Pf
open PySem PySem.W PyProof.Rows
set_option maxHeartbeats 0 in
theorem PySem.Challenge.cw_downweigh_k26_programs_side_by_side_holds : PySem.Challenge.rw_downweigh_k26_programs_side_by_side.Holds := by
  w_on; o_law; k_head; (case hw => w_witness2)
  k_fill
  refine DL.walkG (l := PySem.Challenge.rw_downweigh_k26_programs_side_by_side) (n := 63) (k := 12) (x := "_law_script") (fs := Pf.sp_L_law) rfl (by decide) rfl ⟨rfl, by decide, by decide⟩ (by rfl) (fun _ => by kernel_rfl) (fun w h Y => PySem.W.kIn_of Y) ?F (fun ns _ => ⟨ns, rfl, (fun _ h => by cases h), fun _ => rfl⟩)
  case F =>
    intro w mg fa h KX G hmg
    refine' Pf.all_mk KX G hmg ?a0 ?l0 ?c0 ?k0 ?a1 ?l1 ?c1 ?k1 ?a2 ?l2 ?c2 ?k2 ?a3 ?l3 ?c3 ?k3 ?a4 ?l4 ?c4 ?k4 ?a5 ?l5 ?c5 ?k5 ?a6 ?l6 ?c6 ?k6 ?a7 ?l7 ?c7 ?k7 ?a8 ?l8 ?c8 ?k8 ?a9 ?l9 ?c9 ?k9 ?a10 ?l10 ?c10 ?k10 ?a11 ?l11 ?c11 ?k11 ?a12 ?l12 ?c12 ?k12 ?a13 ?l13 ?c13 ?k13 ?a14 ?l14 ?c14 ?k14 ?a15 ?l15 ?v15_0 ?v15_1 ?c15 ?k15 ?a16 ?l16 ?c16 ?k16 ?a17 ?l17 ?c17 ?k17 ?a18 ?l18 ?c18 ?k18 ?a19 ?l19 ?c19 ?k19 ?a20 ?l20 ?c20 ?k20 ?a21 ?l21 ?c21 ?k21 ?a22 ?l22 ?c22 ?k22 ?a23 ?l23 ?c23 ?k23 ?a24 ?l24 ?c24 ?k24 ?a25 ?l25 ?c25 ?k25 ?a26 ?l26 ?c26 ?k26 ?a27 ?l27 ?c27 ?k27 ?a28 ?l28 ?c28 ?k28 ?z_OverflowError ?z_all ?z_any ?z_bool ?z_enumerate ?z_int ?z_isinstance ?z_len ?z_list ?z_max ?z_min ?z_range ?z_repr ?z_str ?z_sum ?z_tuple ?x_JUST ?x_LEAST ?x_LETTERS ?x_LONGEST_NAME ?x_MOST_NAMES ?x_MOST_NUMBERS ?x_MOST_PLACES ?x_MOST_ROWS ?x_MOST_WISHES ?hx_NoNumber ?hk_NoNumber ?hs_NoNumber ?ht_NoNumber ?y0_NoNumber ?y1_NoNumber ?y2_NoNumber ?y3_NoNumber ?y4_NoNumber ?y5_NoNumber ?y6_NoNumber ?i0_NoNumber ?i1_NoNumber ?i2_NoNumber ?i3_NoNumber ?i4_NoNumber ?i5_NoNumber ?i6_NoNumber ?i7_NoNumber ?i8_NoNumber ?i9_NoNumber ?ia_NoNumber ?ib_NoNumber ?ic_NoNumber ?id_NoNumber ?ie_NoNumber_thing ?hx_NoProgram ?hk_NoProgram ?hs_NoProgram ?ht_NoProgram ?y0_NoProgram ?y1_NoProgram ?y2_NoProgram ?y3_NoProgram ?y4_NoProgram ?y5_NoProgram ?y6_NoProgram ?hx_TooMany ?hk_TooMany ?hs_TooMany ?ht_TooMany ?y0_TooMany ?y1_TooMany ?y2_TooMany ?y3_TooMany ?y4_TooMany ?y5_TooMany ?y6_TooMany ?hq_TooMany ?hx_Unlike ?hk_Unlike ?hs_Unlike ?ht_Unlike ?y0_Unlike ?y1_Unlike ?y2_Unlike ?y3_Unlike ?y4_Unlike ?y5_Unlike ?y6_Unlike ?hq_Unlike ?hx_WeighError ?hk_WeighError ?hs_WeighError ?ht_WeighError ?y0_WeighError ?y1_WeighError ?y2_WeighError ?y3_WeighError ?y4_WeighError ?y5_WeighError ?y6_WeighError ?z_super ?zz_any ?z_top ?ms_NoNumber_TooMany ?ms_NoNumber_WeighError ?ms_TooMany_TooMany ?ms_TooMany_WeighError ?ms_Unlike_TooMany ?ms_Unlike_WeighError ?mk_NoNumber ?mk_NoProgram ?mk_OverflowError ?mk_TooMany ?mk_Unlike ?mk_WeighError ?mf_NoNumber_thing
    (case a0 => k_is); (case l0 => k_is); (case c0 => k_is); (case k0 => k_is); (case a1 => k_is); (case l1 => k_is); (case c1 => k_is); (case k1 => k_is); (case a2 => k_is); (case l2 => k_is); (case c2 => k_is); (case k2 => k_is); (case a3 => k_is); (case l3 => k_is); (case c3 => k_is); (case k3 => k_is); (case a4 => k_is); (case l4 => k_is); (case c4 => k_is); (case k4 => k_is); (case a5 => k_is); (case l5 => k_is); (case c5 => k_is); (case k5 => k_is); (case a6 => k_is); (case l6 => k_is); (case c6 => k_is); (case k6 => k_is); (case a7 => k_is); (case l7 => k_is); (case c7 => k_is); (case k7 => k_is); (case a8 => k_is); (case l8 => k_is); (case c8 => k_is); (case k8 => k_is); (case a9 => k_is); (case l9 => k_is); (case c9 => k_is); (case k9 => k_is); (case a10 => k_is); (case l10 => k_is); (case c10 => k_is); (case k10 => k_is); (case a11 => k_is); (case l11 => k_is); (case c11 => k_is); (case k11 => k_is); (case a12 => k_is); (case l12 => k_is); (case c12 => k_is); (case k12 => k_is); (case a13 => k_is); (case l13 => k_is); (case c13 => k_is); (case k13 => k_is); (case a14 => k_is); (case l14 => k_is); (case c14 => k_is); (case k14 => k_is); (case a15 => k_is); (case l15 => k_is); (case v15_0 => k_is); (case v15_1 => k_is); (case c15 => k_is); (case k15 => k_is); (case a16 => k_is); (case l16 => k_is); (case c16 => k_is); (case k16 => k_is); (case a17 => k_is); (case l17 => k_is); (case c17 => k_is); (case k17 => k_is); (case a18 => k_is); (case l18 => k_is); (case c18 => k_is); (case k18 => k_is); (case a19 => k_is); (case l19 => k_is); (case c19 => k_is); (case k19 => k_is); (case a20 => k_is); (case l20 => k_is); (case c20 => k_is); (case k20 => k_is); (case a21 => k_is); (case l21 => k_is); (case c21 => k_is); (case k21 => k_is); (case a22 => k_is); (case l22 => k_is); (case c22 => k_is); (case k22 => k_is); (case a23 => k_is); (case l23 => k_is); (case c23 => k_is); (case k23 => k_is); (case a24 => k_is); (case l24 => k_is); (case c24 => k_is); (case k24 => k_is); (case a25 => k_is); (case l25 => k_is); (case c25 => k_is); (case k25 => k_is); (case a26 => k_is); (case l26 => k_is); (case c26 => k_is); (case k26 => k_is); (case a27 => k_is); (case l27 => k_is); (case c27 => k_is); (case k27 => k_is); (case a28 => k_is); (case l28 => k_is); (case c28 => k_is); (case k28 => k_is); (case z_OverflowError => k_is); (case z_all => k_is); (case z_any => k_is); (case z_bool => k_is); (case z_enumerate => k_is); (case z_int => k_is); (case z_isinstance => k_is); (case z_len => k_is); (case z_list => k_is); (case z_max => k_is); (case z_min => k_is); (case z_range => k_is); (case z_repr => k_is); (case z_str => k_is); (case z_sum => k_is); (case z_tuple => k_is); (case x_JUST => k_is); (case x_LEAST => k_is); (case x_LETTERS => k_is); (case x_LONGEST_NAME => k_is); (case x_MOST_NAMES => k_is); (case x_MOST_NUMBERS => k_is); (case x_MOST_PLACES => k_is); (case x_MOST_ROWS => k_is); (case x_MOST_WISHES => k_is); (case hx_NoNumber => k_is); (case hk_NoNumber => k_is); (case hs_NoNumber => k_is); (case ht_NoNumber => k_is); (case y0_NoNumber => k_is); (case y1_NoNumber => k_is); (case y2_NoNumber => k_is); (case y3_NoNumber => k_is); (case y4_NoNumber => k_is); (case y5_NoNumber => k_is); (case y6_NoNumber => k_is); (case i0_NoNumber => k_is); (case i1_NoNumber => k_is); (case i2_NoNumber => k_is); (case i3_NoNumber => kernel_rfl); (case i4_NoNumber => kernel_rfl); (case i5_NoNumber => kernel_rfl); (case i6_NoNumber => k_is); (case i7_NoNumber => kernel_rfl); (case i8_NoNumber => k_is); (case i9_NoNumber => k_is); (case ia_NoNumber => k_is); (case ib_NoNumber => k_is); (case ic_NoNumber => rfl); (case id_NoNumber => kernel_rfl); (case ie_NoNumber_thing => kernel_rfl); (case hx_NoProgram => k_is); (case hk_NoProgram => k_is); (case hs_NoProgram => k_is); (case ht_NoProgram => k_is); (case y0_NoProgram => k_is); (case y1_NoProgram => k_is); (case y2_NoProgram => k_is); (case y3_NoProgram => k_is); (case y4_NoProgram => k_is); (case y5_NoProgram => k_is); (case y6_NoProgram => k_is); (case hx_TooMany => k_is); (case hk_TooMany => k_is); (case hs_TooMany => k_is); (case ht_TooMany => k_is); (case y0_TooMany => k_is); (case y1_TooMany => k_is); (case y2_TooMany => k_is); (case y3_TooMany => k_is); (case y4_TooMany => k_is); (case y5_TooMany => k_is); (case y6_TooMany => k_is); (case hq_TooMany => kernel_rfl); (case hx_Unlike => k_is); (case hk_Unlike => k_is); (case hs_Unlike => k_is); (case ht_Unlike => k_is); (case y0_Unlike => k_is); (case y1_Unlike => k_is); (case y2_Unlike => k_is); (case y3_Unlike => k_is); (case y4_Unlike => k_is); (case y5_Unlike => k_is); (case y6_Unlike => k_is); (case hq_Unlike => kernel_rfl); (case hx_WeighError => k_is); (case hk_WeighError => k_is); (case hs_WeighError => k_is); (case ht_WeighError => k_is); (case y0_WeighError => k_is); (case y1_WeighError => k_is); (case y2_WeighError => k_is); (case y3_WeighError => k_is); (case y4_WeighError => k_is); (case y5_WeighError => k_is); (case y6_WeighError => k_is); (case z_super => k_is); (case zz_any => k_is); (case z_top => kernel_rfl); (case ms_NoNumber_TooMany => k_is); (case ms_NoNumber_WeighError => k_is); (case ms_TooMany_TooMany => k_is); (case ms_TooMany_WeighError => k_is); (case ms_Unlike_TooMany => k_is); (case ms_Unlike_WeighError => k_is); (case mk_NoNumber => kernel_rfl); (case mk_NoProgram => kernel_rfl); (case mk_OverflowError => kernel_rfl); (case mk_TooMany => kernel_rfl); (case mk_Unlike => kernel_rfl); (case mk_WeighError => kernel_rfl); (case mf_NoNumber_thing => k_is)
