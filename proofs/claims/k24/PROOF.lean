import PyProof.Rows.All
import Wide.All
import OpenK.AllK
import Wide.FinOn
import HandS.ForMost
import HandS.Wide
import HandS.Walk
import HandS.Zip
import HandS.IsInst
import HandS.Defaults
import HandS.Style
import HandS.Deep
import HandS.FStrTup
import Flt.Len
import PyProof.ReprRoads
import PyProof.NoPylong
import HandS.ExcOwn
import HandS.ExcIs
import HandS.ExcValue
import HandS.WordsExc
import KE.KExcIs
import HandS.TupLe
import PyProof.P3In
import HandS.ExcInit
import KE.KExcSuper
import HandS.Star
import HandS.Small
import KE.DataFind
import HandS.StrMore
import HandS.FStr
import HandS.WideBits
import HandS.RevTup
import HandS.Rev
import HandS.SortKw
import KE.DataMinMax
import HandS.Codes
import KE.IntTextLaws
import HandS.TryOnly
import HandS.DictComp
import HandS.Conv
import HandS.SetFor
import HandS.Strs
import PyProof.Rows.ListMulR
import HandS.TupAny
import KE.KTryMore
import HandS.SortInts
import PyProof.ExcBaseAll.IndexError
import PyProof.ExcBaseAll.LookupError
import PyProof.ExcBaseAll.ValueError
import PyProof.ExcBaseAll.ZeroDivisionError
import PySem.Challenge.RW_downweigh_k24_programs_in_order
set_option Elab.async false
set_option linter.all false
set_option maxRecDepth 100000
set_option maxHeartbeats 4000000
namespace DL
open PySem PySem.Spec PyProof.Rows L2
def dctK (kvs : List (Str × Int)) : List (Key × V) := kvs.map fun kv => (.inr kv.1, .int kv.2)
inductive D where
  | non
  | bl (b : Bool)
  | int (i : Int)
  | str (x : Str)
  | lst (xs : List D)
  | tup (xs : List D)
  | fro (xs : List D)
  | edic
  | dct (kvs : List (Str × Int))
  | opq (v : V)
  | exc (c : Str) (ns : List Str) (xs : List D)
def Sub (H H' : Hp) : Prop := ∀ b o, H b = some o → H' b = some o
theorem Sub.refl (H : Hp) : Sub H H := fun _ _ h => h
theorem Sub.trans {H H1 H2 : Hp} (a : Sub H H1) (b : Sub H1 H2) : Sub H H2 := fun c o h => b c o (a c o h)
theorem Sub.new {H : Hp} {p : Addr} {o : HO} (h : H p = none) : Sub H (upd H p o) := fun b u e => by
  rw [upd_ne (ne_of_none e h)]; exact e
theorem Sub.none {H H' : Hp} (s : Sub H H') {p : Addr} (h : H' p = none) : H p = none := by
  cases e : H p with
  | none => rfl
  | some o => rw [s p o e] at h; cases h
theorem Sub.sqL {K : PySem.W.Frag} {H H' : Hp} {a : Addr} {xs : List V} (e : Sub H H') (h : SqL K H a xs) : SqL K H' a xs := by
  rcases h with (h | ⟨o, h⟩) | h
  · exact .inl (.inl (e _ _ h))
  · exact .inl (.inr ⟨o, e _ _ h⟩)
  · exact .inr h
theorem Sub.sqT {K : PySem.W.Frag} {H H' : Hp} {a : Addr} {xs : List V} (e : Sub H H') (h : SqT K H a xs) : SqT K H' a xs := by
  rcases h with (h | ⟨o, h⟩) | h
  · exact .inl (.inl (e _ _ h))
  · exact .inl (.inr ⟨o, e _ _ h⟩)
  · exact .inr h
/-- an exception's object at a: its class, its dict -/
def ExH (cv : Value) (d : Option Addr) (a : Addr) : HO := .ext fun h => ∃ (oe : Obj) (fv : Array Value), h.get? a = some oe ∧ Zc cv d oe ∧ oe.data = .fields fv
/-- what its dict holds -/
def XD (F : Hp) (d : Option Addr) (ns : List Str) (vs : List V) : Prop := (d = none ∧ ns = [] ∧ vs = []) ∨ ∃ dx, d = some dx ∧ F dx = some (.xd (ns.zip vs)) ∧ ns.length = vs.length ∧ ns ≠ []
theorem XD.mono {F F' : Hp} {d : Option Addr} {ns : List Str} {vs : List V} (e : Sub F F') (h : XD F d ns vs) : XD F' d ns vs := by
  rcases h with h | ⟨dx, h1, h2, h3⟩
  · exact .inl h
  · exact .inr ⟨dx, h1, e _ _ h2, h3⟩
mutual
inductive DR (K : PySem.W.Frag) (F : Hp) : V → D → Prop
  | non : DR K F .non .non
  | bl (b : Bool) : DR K F (.bl b) (.bl b)
  | int (i : Int) : DR K F (.int i) (.int i)
  | str (x : Str) : DR K F (.str x) (.str x)
  | lst {a : Addr} {xs : List V} {ds : List D} : F a = some (.lst xs) → DRs K F xs ds → DR K F (.ref a) (.lst ds)
  | tup {a : Addr} {xs : List V} {ds : List D} : SqT K F a xs → DRs K F xs ds → DR K F (.ref a) (.tup ds)
  | fro {a : Addr} {xs : List V} {ds : List D} : SqL K F a xs → DRs K F xs ds → DR K F (.ref a) (.fro ds)
  | edic {a : Addr} : F a = some (.dK []) → DR K F (.ref a) .edic
  | dct {a : Addr} {kvs : List (Str × Int)} : F a = some (.dK (dctK kvs)) → DR K F (.ref a) (.dct kvs)
  | opq (v : V) : DR K F v (.opq v)
  | exc {a : Addr} {c : Str} {cv : Value} {d : Option Addr} {ns : List Str} {vs : List V} {ds : List D} : PySem.W.nsIn K mainGlobals c = some (some cv) → F a = some (ExH cv d a) → XD F d ns vs → DRs K F vs ds → DR K F (.ref a) (.exc c ns ds)
inductive DRs (K : PySem.W.Frag) (F : Hp) : List V → List D → Prop
  | nil : DRs K F [] []
  | cons {v : V} {vs : List V} {d : D} {ds : List D} : DR K F v d → DRs K F vs ds → DRs K F (v :: vs) (d :: ds)
end
section
variable {K : PySem.W.Frag} {F F' H H' : Hp} {v : V} {d : D} {vs : List V} {ds : List D}
mutual
theorem DR.mono (e : Sub F F') : ∀ {v : V} {d : D}, DR K F v d → DR K F' v d
  | _, _, .non => .non
  | _, _, .bl b => .bl b
  | _, _, .int i => .int i
  | _, _, .str x => .str x
  | _, _, .lst h hs => .lst (e _ _ h) (DRs.mono e hs)
  | _, _, .tup h hs => .tup (e.sqT h) (DRs.mono e hs)
  | _, _, .fro h hs => .fro (e.sqL h) (DRs.mono e hs)
  | _, _, .edic h => .edic (e _ _ h)
  | _, _, .dct h => .dct (e _ _ h)
  | _, _, .opq v => .opq v
  | _, _, .exc h0 h hx hs => .exc h0 (e _ _ h) (hx.mono e) (DRs.mono e hs)
theorem DRs.mono (e : Sub F F') : ∀ {vs : List V} {ds : List D}, DRs K F vs ds → DRs K F' vs ds
  | _, _, .nil => .nil
  | _, _, .cons h hs => .cons (DR.mono e h) (DRs.mono e hs)
end
theorem DRs.length : ∀ {vs : List V} {ds : List D}, DRs K F vs ds → vs.length = ds.length
  | _, _, .nil => rfl
  | _, _, .cons _ h => by simp [DRs.length h]
theorem DRs.get : ∀ {vs : List V} {ds : List D} {i : Nat} {d : D}, DRs K F vs ds → ds[i]? = some d → ∃ v, vs[i]? = some v ∧ DR K F v d
  | _, _, _, _, .nil, e => by simp at e
  | _, _, 0, _, .cons r _, e => by simp at e; subst e; exact ⟨_, rfl, r⟩
  | _, _, i + 1, d, .cons _ t, e => by
    obtain ⟨u, h1, h2⟩ := DRs.get (i := i) (d := d) t (by simpa using e)
    exact ⟨u, by simpa using h1, h2⟩
theorem DRs.getV : ∀ {vs : List V} {ds : List D} {i : Nat} {v : V}, DRs K F vs ds → vs[i]? = some v → ∃ d, ds[i]? = some d ∧ DR K F v d
  | _, _, _, _, .nil, e => by simp at e
  | _, _, 0, _, .cons r _, e => by simp at e; subst e; exact ⟨_, rfl, r⟩
  | _, _, i + 1, d, .cons _ t, e => by
    obtain ⟨u, h1, h2⟩ := DRs.getV (i := i) (v := d) t (by simpa using e)
    exact ⟨u, by simpa using h1, h2⟩
theorem DRs.append : ∀ {xs ys : List V} {ds es : List D}, DRs K F xs ds → DRs K F ys es → DRs K F (xs ++ ys) (ds ++ es)
  | _, _, _, _, .nil, s => s
  | _, _, _, _, .cons r t, s => .cons r (DRs.append t s)
theorem DRs.take : ∀ {xs : List V} {ds : List D} (n : Nat), DRs K F xs ds → DRs K F (xs.take n) (ds.take n)
  | _, _, 0, _ => by simp; exact .nil
  | _, _, _ + 1, .nil => .nil
  | _, _, n + 1, .cons r t => .cons r (DRs.take n t)
theorem DRs.drop : ∀ {xs : List V} {ds : List D} (n : Nat), DRs K F xs ds → DRs K F (xs.drop n) (ds.drop n)
  | _, _, 0, r => r
  | _, _, _ + 1, .nil => .nil
  | _, _, n + 1, .cons _ t => DRs.drop n t
theorem DRs.set {x : V} {u : D} (r : DR K F x u) : ∀ {xs : List V} {us : List D} (i : Nat), DRs K F xs us → DRs K F (xs.set i x) (us.set i u)
  | _, _, _, .nil => .nil
  | _, _, 0, .cons _ t => .cons r t
  | _, _, i + 1, .cons q t => .cons q (DRs.set r i t)
theorem DRs.ints : ∀ (ns : List Int), DRs K F (ns.map V.int) (ns.map D.int)
  | [] => .nil
  | n :: r => .cons (.int n) (DRs.ints r)
end
abbrev DS := List (Option D)
abbrev MS := List (Addr × List D)
/-- address 1 (the modules) is tracked from the start: nothing of ours lies there -/
def OneR (K : PySem.W.Frag) (F : Hp) : Prop := K.lookup sysModules = none ∧ ∃ o φ, F sysModules = some (.frz o (.ext φ))
theorem OneR.mono {K : PySem.W.Frag} {F F' : Hp} (h : OneR K F) (s : Sub F F') : OneR K F' := let ⟨a, o, φ, b⟩ := h; ⟨a, o, φ, s _ _ b⟩
structure Rel (K : PySem.W.Frag) (F H : Hp) (ms : MS) : Prop where
  sub : Sub F H
  mu : ∀ p ∈ ms, F p.1 = none ∧ ∃ vs, H p.1 = some (.lst vs) ∧ DRs K F vs p.2
  nd : (ms.map (·.1)).Nodup
  one : OneR K F
inductive Sl (K : PySem.W.Frag) (F : Hp) : L2.St → DS → Prop
  | nil : Sl K F [] []
  | sm {v : V} {d : D} {σ : L2.St} {ds : DS} : DR K F v d → Sl K F σ ds → Sl K F (some v :: σ) (some d :: ds)
  | nn {o : Option V} {σ : L2.St} {ds : DS} : Sl K F σ ds → Sl K F (o :: σ) (none :: ds)
def slot : DS → Nat → Option D
  | [], _ => none
  | o :: _, 0 => o
  | _ :: r, n + 1 => slot r n
def setSlot : DS → Nat → D → DS
  | [], _, _ => []
  | _ :: r, 0, d => some d :: r
  | o :: r, n + 1, d => o :: setSlot r n d
section
variable {K : PySem.W.Frag} {F F' H H' : Hp} {ms : MS} {σ : L2.St} {ds : DS}
theorem Sl.mono (e : Sub F F') : ∀ {σ : L2.St} {ds : DS}, Sl K F σ ds → Sl K F' σ ds
  | _, _, .nil => .nil
  | _, _, .sm h r => .sm (h.mono e) (Sl.mono e r)
  | _, _, .nn r => .nn (Sl.mono e r)
theorem Sl.get : ∀ {σ : L2.St} {ds : DS} {i : Nat} {d : D}, Sl K F σ ds → slot ds i = some d → ∃ v, σ[i]? = some (some v) ∧ DR K F v d
  | _, _, i, _, .nil, e => by cases i <;> cases e
  | _, _, 0, _, .sm h r, e => by cases e; exact ⟨_, rfl, h⟩
  | _, _, 0, _, .nn r, e => by cases e
  | _, _, i + 1, _, .sm h r, e => Sl.get (i := i) r e
  | _, _, i + 1, _, .nn r, e => Sl.get (i := i) r e
theorem Sl.set {v : V} {d : D} (h : DR K F v d) : ∀ {σ : L2.St} {ds : DS} (i : Nat), Sl K F σ ds → Sl K F (σ.set i (some v)) (setSlot ds i d)
  | _, _, i, .nil => by cases i <;> exact .nil
  | _, _, 0, .sm _ r => .sm h r
  | _, _, 0, .nn r => .sm h r
  | _, _, i + 1, .sm q r => .sm q (Sl.set h i r)
  | _, _, i + 1, .nn r => .nn (Sl.set h i r)
theorem Sl.len : ∀ {σ : L2.St} {ds : DS}, Sl K F σ ds → σ.length = ds.length
  | _, _, .nil => rfl
  | _, _, .sm _ r => by simp [Sl.len r]
  | _, _, .nn r => by simp [Sl.len r]
theorem Rel.new {p : Addr} {o : HO} (R : Rel K F H ms) (hp : H p = none) : Rel K (upd F p o) (upd H p o) ms := by
  refine ⟨fun b u e => ?_, fun q hq => ?_, R.nd, R.one.mono (Sub.new (R.sub.none hp))⟩
  · by_cases hb : b = p
    · subst hb; rw [upd_same] at e ⊢; exact e
    · rw [upd_ne hb] at e ⊢; exact R.sub b u e
  · obtain ⟨h1, vs, h2, h3⟩ := R.mu q hq
    have hne : q.1 ≠ p := ne_of_none h2 hp
    exact ⟨by rw [upd_ne hne]; exact h1, vs, by rw [upd_ne hne]; exact h2, h3.mono (Sub.new (R.sub.none hp))⟩
theorem Rel.ext (R : Rel K F H ms) (s : Sub H H') : Rel K F H' ms :=
  ⟨R.sub.trans s, fun q hq => let ⟨h1, vs, h2, h3⟩ := R.mu q hq; ⟨h1, vs, s _ _ h2, h3⟩, R.nd, R.one⟩
theorem Rel.lay {p : Addr} {o : HO} (R : Rel K F H ms) (hp : H p = none) : Rel K F (upd H p o) ms := R.ext (Sub.new hp)
end
/-- one step: what was known stays, what is not ours is left as it was -/
structure Stp (F H : Hp) (ms : MS) (F' H' : Hp) (ms' : MS) : Prop where
  sub : Sub F F'
  keep : ∀ a o, H a = some o → F a = none → (∀ p ∈ ms, p.1 ≠ a) → H' a = some o
  newF : ∀ a o, F' a = some o → F a = some o ∨ H a = none ∨ ∃ p ∈ ms, p.1 = a
  newM : ∀ p ∈ ms', (∃ q ∈ ms, q.1 = p.1) ∨ H p.1 = none ∨ ∃ o, F p.1 = some o
section
variable {K : PySem.W.Frag} {F F1 F2 H H1 H2 : Hp} {ms m1 m2 : MS}
theorem Stp.refl : Stp F H ms F H ms := ⟨Sub.refl F, fun _ _ h _ _ => h, fun _ _ h => .inl h, fun p hp => .inl ⟨p, hp, rfl⟩⟩
theorem Stp.trans (a : Stp F H ms F1 H1 m1) (b : Stp F1 H1 m1 F2 H2 m2) : Stp F H ms F2 H2 m2 := by
  have kp : ∀ c o, H c = some o → F c = none → (∀ p ∈ ms, p.1 ≠ c) → H1 c = some o ∧ F1 c = none ∧ ∀ p ∈ m1, p.1 ≠ c := fun c o h1 h2 h3 => by
    refine ⟨a.keep c o h1 h2 h3, ?_, fun p hp e => ?_⟩
    · cases e : F1 c with
      | none => rfl
      | some u =>
        rcases a.newF c u e with z | z | ⟨p, hp, z⟩
        · rw [h2] at z; cases z
        · rw [h1] at z; cases z
        · exact absurd z (h3 p hp)
    · rcases a.newM p hp with ⟨q, hq, z⟩ | z | ⟨u, z⟩
      · exact h3 q hq (z.trans e)
      · rw [e, h1] at z; cases z
      · rw [e, h2] at z; cases z
  have bk : ∀ c, H1 c = none → F c = none → H c = none ∨ ∃ p ∈ ms, p.1 = c := fun c h1 h2 => by
    cases e : H c with
    | none => exact .inl rfl
    | some u =>
      by_cases hq : ∃ p ∈ ms, p.1 = c
      · exact .inr hq
      · have z := a.keep c u e h2 fun p hp z => hq ⟨p, hp, z⟩
        rw [h1] at z; cases z
  refine ⟨a.sub.trans b.sub, fun c o h1 h2 h3 => ?_, fun c o h => ?_, fun p hp => ?_⟩
  · obtain ⟨x, y, z⟩ := kp c o h1 h2 h3
    exact b.keep c o x y z
  · cases ef : F c with
    | some u =>
      have z := b.sub c u (a.sub c u ef)
      rw [h] at z
      exact .inl z.symm
    | none =>
      refine .inr ?_
      rcases b.newF c o h with z | z | ⟨p, hp, z⟩
      · rcases a.newF c o z with y | y | y
        · rw [ef] at y; cases y
        · exact .inl y
        · exact .inr y
      · exact bk c z ef
      · rcases a.newM p hp with ⟨q, hq, y⟩ | y | ⟨u, y⟩
        · exact .inr ⟨q, hq, y.trans z⟩
        · exact .inl (z ▸ y)
        · rw [z, ef] at y; cases y
  · cases ef : F p.1 with
    | some u => exact .inr (.inr ⟨u, rfl⟩)
    | none =>
      rcases b.newM p hp with ⟨q, hq, z⟩ | z | ⟨u, z⟩
      · rcases a.newM q hq with ⟨q2, hq2, z2⟩ | z2 | ⟨u, z2⟩
        · exact .inl ⟨q2, hq2, z2.trans z⟩
        · exact .inr (.inl (z ▸ z2))
        · rw [z, ef] at z2; cases z2
      · rcases bk p.1 z ef with y | y
        · exact .inr (.inl y)
        · exact .inl y
      · rcases a.newF p.1 u z with y | y | y
        · rw [ef] at y; cases y
        · exact .inr (.inl y)
        · exact .inl y
theorem Stp.new {p : Addr} {o : HO} (R : Rel K F H ms) (hp : H p = none) : Stp F H ms (upd F p o) (upd H p o) ms := by
  refine ⟨Sub.new (R.sub.none hp), fun a u h1 h2 h3 => ?_, fun a u h => ?_, fun q hq => .inl ⟨q, hq, rfl⟩⟩
  · rw [upd_ne (ne_of_none h1 hp)]; exact h1
  · by_cases e : a = p
    · subst e; exact .inr (.inl hp)
    · rw [upd_ne e] at h; exact .inl h
end
abbrev DE := DS → MS → (D → MS → Prop) → Prop
abbrev DA := DS → MS → (List D → MS → Prop) → Prop
abbrev DT := DS → MS → (Bool → MS → Prop) → Prop
def lift (K : PySem.W.Frag) (de : DE) : TE := fun σ H Q => ∃ F ds ms P, Rel K F H ms ∧ Sl K F σ ds ∧ de ds ms P ∧
  ∀ d ms' v F' H', P d ms' → Rel K F' H' ms' → Stp F H ms F' H' ms' → DR K F' v d → Q v H'
def liftA (K : PySem.W.Frag) (de : DA) : TA := fun σ H Q => ∃ F ds ms P, Rel K F H ms ∧ Sl K F σ ds ∧ de ds ms P ∧
  ∀ xs ms' vs F' H', P xs ms' → Rel K F' H' ms' → Stp F H ms F' H' ms' → DRs K F' vs xs → Q vs H'
def liftT (K : PySem.W.Frag) (de : DT) : TT := fun σ H Q => ∃ F ds ms P, Rel K F H ms ∧ Sl K F σ ds ∧ de ds ms P ∧
  ∀ b ms' F' H', P b ms' → Rel K F' H' ms' → Stp F H ms F' H' ms' → Q b H'
abbrev PD (X : Cx) (e : Expr) (de : DE) : Prop := PE X e (lift X.K de)
abbrev PDA (X : Cx) (es : List Expr) (de : DA) : Prop := PA X es (liftA X.K de)
abbrev PDT (X : Cx) (e : Expr) (de : DT) : Prop := PT X e (liftT X.K de)
theorem peImp {X : Cx} {e : Expr} {t t' : TE} (h : PE X e t) (hi : ∀ σ H Q, t' σ H Q → t σ H Q) : PE X e t' := ⟨fun pins s σ H Q I hq => h.run pins s σ H Q I (hi σ H Q hq)⟩
theorem paImp {X : Cx} {e : List Expr} {t t' : TA} (h : PA X e t) (hi : ∀ σ H Q, t' σ H Q → t σ H Q) : PA X e t' := ⟨fun pos pins s σ H Q I hq => h.run pos pins s σ H Q I (hi σ H Q hq)⟩
theorem ptImp {X : Cx} {e : Expr} {t t' : TT} (h : PT X e t) (hi : ∀ σ H Q, t' σ H Q → t σ H Q) : PT X e t' := ⟨fun pins s σ H Q I hq => h.run pins s σ H Q I (hi σ H Q hq)⟩
theorem pwImp {X : Cx} {e : Expr} {t t' : TT} (h : PW X e t) (hi : ∀ σ H Q, t' σ H Q → t σ H Q) : PW X e t' := ⟨fun wh pins s σ H Q I hq => h.run wh pins s σ H Q I (hi σ H Q hq)⟩
theorem psImp {X : Cx} {e : Stmt} {t t' : TS} (h : PS X e t) (hi : ∀ D σ H, t' D σ H → t D σ H) : PS X e t' := ⟨fun pins s σ H D I hq => h.run pins s σ H D I (hi D σ H hq)⟩
theorem pssImp {X : Cx} {e : List Stmt} {t t' : TS} (h : PSs X e t) (hi : ∀ D σ H, t' D σ H → t D σ H) : PSs X e t' := ⟨fun pins s σ H D I hq => h.run pins s σ H D I (hi D σ H hq)⟩
def dC (d : D) : DE := fun _ ms P => P d ms
def dVar (i : Nat) : DE := fun ds ms P => match slot ds i with
  | some d => P d ms
  | none => False
section
variable {X : Cx} {K : PySem.W.Frag}
theorem lift_c {v : V} {d : D} (h : ∀ F, DR K F v d) : ∀ σ H Q, lift K (dC d) σ H Q → tC v σ H Q := fun σ H Q ⟨F, ds, ms, P, R, S, h1, h2⟩ =>
  h2 d ms v F H h1 R Stp.refl (h F)
theorem pd_int {i j pos} : PD X (.Constant (.int i) j pos) (dC (.int i)) := peImp pe_int (lift_c fun _ => .int i)
theorem pd_bl {b j pos} : PD X (.Constant (.bool b) j pos) (dC (.bl b)) := peImp pe_bl (lift_c fun _ => .bl b)
theorem pd_non {j pos} : PD X (.Constant .none j pos) (dC .non) := peImp pe_non (lift_c fun _ => .non)
theorem pd_str {x j pos} : PD X (.Constant (.str x) j pos) (dC (.str x)) := peImp pe_str (lift_c fun _ => .str x)
theorem pd_glob {x : Str} {v : V} {d : D} {u : Value} {pos : Pos} (hg : Gl X x) (hm : X.mg x = some u) (r : RelV v u) (h : ∀ F, DR X.K F v d) (hd : (x == ("__debug__" : Str)) = false := by decide) : PD X (.Name x pos) (dC d) :=
  peImp (pe_glob hg hm r hd) (lift_c h)
theorem pd_var (i : Nat) {x : Str} {pos : Pos} (hN : X.N[i]? = some x := by rfl) (hv : Vis X.env.scope x := by first | exact Or.inl rfl | exact Or.inr (Or.inl rfl) | exact Or.inr (Or.inr rfl)) (hd : (x == ("__debug__" : Str)) = false := by decide)
    (hcd : (x == ("__classdict__" : Str)) = false := by decide) : PD X (.Name x pos) (dVar i) :=
  peImp (pe_var hN hv hd hcd) fun σ H Q ⟨F, ds, ms, P, R, S, h1, h2⟩ => by
    unfold dVar at h1
    cases e : slot ds i with
    | none => rw [e] at h1; exact h1.elim
    | some d =>
      rw [e] at h1
      obtain ⟨v, hv, hr⟩ := S.get e
      exact ⟨v, hv, h2 d ms v F H h1 R Stp.refl hr⟩
end
abbrev OF := D → D → MS → (D → MS → Prop) → Prop
def OpD (K : PySem.W.Frag) (r : R2) (f : OF) : Prop := ∀ (F H : Hp) (ms : MS) (x y : V) (dx dy : D) (P : D → MS → Prop) (Q : VK), Rel K F H ms → DR K F x dx → DR K F y dy → f dx dy ms P →
  (∀ d ms' v F' H', P d ms' → Rel K F' H' ms' → Stp F H ms F' H' ms' → DR K F' v d → Q v H') → r x y H Q
def dOp (f : OF) (da db : DE) : DE := fun ds ms P => da ds ms fun x m1 => db ds m1 fun y m2 => f x y m2 P
section
variable {X : Cx} {K : PySem.W.Frag} {da db dc : DE} {a b c : Expr} {pos : Pos}
theorem lift_op {r : R2} {f : OF} (hf : OpD K r f) : ∀ σ H Q, lift K (dOp f da db) σ H Q → tOp r (lift K da) (lift K db) σ H Q := fun σ H Q ⟨F, ds, ms, P, R, S, h1, h2⟩ =>
  ⟨F, ds, ms, _, R, S, h1, fun dx m1 x F1 H1 p1 R1 s1 r1 => ⟨F1, ds, m1, _, R1, S.mono s1.sub, p1, fun dy m2 y F2 H2 p2 R2 s2 r2 =>
    hf F2 H2 m2 x y dx dy P Q R2 (r1.mono s2.sub) r2 p2 fun d m3 v F3 H3 p3 R3 s3 r3 => h2 d m3 v F3 H3 p3 R3 (s1.trans (s2.trans s3)) r3⟩⟩
theorem pd_op {op : Operator} {r : R2} {f : OF} (ho : OpR X (binaryOp op) r) (hf : OpD X.K r f) (ha : PD X a da) (hb : PD X b db) : PD X (.BinOp a op b pos) (dOp f da db) :=
  peImp (pe_op ho ha hb) (lift_op hf)
theorem pd_cmp {op : CmpOp} {r : R2} {f : OF} (ho : OpR X (compareOp op) r) (hf : OpD X.K r f) (ha : PD X a da) (hb : PD X b db) (hm : behindInMarks op b = false := by first | exact nomark _ | rfl) : PD X (.Compare a [op] [b] pos) (dOp f da db) :=
  peImp (pe_cmpR ho ha hb hm) (lift_op hf)
theorem pd_ix {r : R2} {f : OF} (hr : IxR X r) (hf : OpD X.K r f) (ha : PD X a da) (hb : PD X b db) (hs : PlainIx b := by exact fun _ _ => rfl) : PD X (.Subscript a b pos) (dOp f da db) :=
  peImp (pe_ix hr ha hb hs) (lift_op hf)
end
/-- ints in, a value out, under a condition -/
def fI (C : Int → Int → Prop) (g : Int → Int → D) : OF := fun x y ms P => match x, y with
  | .int i, .int j => C i j ∧ P (g i j) ms
  | _, _ => False
theorem opd_I {K : PySem.W.Frag} {C C' : Int → Int → Prop} {g : Int → Int → V} {g' : Int → Int → D} (hC : ∀ i j, C i j → C' i j) (hg : ∀ F i j, DR K F (g i j) (g' i j)) : OpD K (rI C' g) (fI C g') := by
  intro F H ms x y dx dy P Q R rx ry h q
  cases rx <;> cases ry <;> try exact h.elim
  exact ⟨_, _, rfl, rfl, hC _ _ h.1, q _ _ _ F H h.2 R Stp.refl (hg F _ _)⟩
theorem opd_I0 {K : PySem.W.Frag} {g : Int → Int → V} {g' : Int → Int → D} (hg : ∀ F i j, DR K F (g i j) (g' i j)) : OpD K (rI0 g) (fI (fun _ _ => True) g') := by
  intro F H ms x y dx dy P Q R rx ry h q
  cases rx <;> cases ry <;> try exact h.elim
  exact ⟨_, _, rfl, rfl, q _ _ _ F H h.2 R Stp.refl (hg F _ _)⟩
end DL
namespace DL
open PySem PySem.Spec PyProof.Rows L2
def aNil : DA := fun _ ms P => P [] ms
def aCons (de : DE) (da : DA) : DA := fun ds ms P => de ds ms fun x m1 => da ds m1 fun xs m2 => P (x :: xs) m2
section
variable {X : Cx} {K : PySem.W.Frag} {da db dc : DE} {a b c e : Expr} {es : List Expr} {pos : Pos} {aa : DA}
theorem pda_nil : PDA X [] aNil := paImp pa_nil fun σ H Q ⟨F, ds, ms, P, R, S, h1, h2⟩ => h2 [] ms [] F H h1 R Stp.refl .nil
theorem pda_cons (ha : PD X e da) (hr : PDA X es aa) (hs : starEach (e :: es) X.env = (false, eval e X.env) :: starEach es X.env := by rfl) : PDA X (e :: es) (aCons da aa) :=
  paImp (pa_cons ha hr hs) fun σ H Q ⟨F, ds, ms, P, R, S, h1, h2⟩ =>
    ⟨F, ds, ms, _, R, S, h1, fun dx m1 x F1 H1 p1 R1 s1 r1 => ⟨F1, ds, m1, _, R1, S.mono s1.sub, p1, fun xs m2 vs F2 H2 p2 R2 s2 r2 =>
      h2 _ m2 (x :: vs) F2 H2 p2 R2 (s1.trans s2) (.cons (r1.mono s2.sub) r2)⟩⟩
def dTup (da : DA) : DE := fun ds ms P => da ds ms fun xs m => xs.length ≤ sizeLine ∧ P (.tup xs) m
def dLst (da : DA) : DE := fun ds ms P => da ds ms fun xs m => xs.length ≤ sizeLine ∧ P (.lst xs) m
/-- a list that is to be changed -/
def dLstM (da : DA) : DE := fun ds ms P => da ds ms fun xs m => xs.length ≤ sizeLine ∧ ∀ p, (∀ q ∈ m, q.1 ≠ p) → P (.opq (.ref p)) ((p, xs) :: m)
theorem Rel.newTup {F H : Hp} {ms : MS} {p : Addr} {vs : List V} {xs : List D} (R : Rel K F H ms) (hp : H p = none) (r : DRs K F vs xs) : DR K (upd F p (.tup vs)) (.ref p) (.tup xs) :=
  .tup (SqT.of upd_same) (r.mono (Sub.new (R.sub.none hp)))
theorem Rel.newLst {F H : Hp} {ms : MS} {p : Addr} {vs : List V} {xs : List D} (R : Rel K F H ms) (hp : H p = none) (r : DRs K F vs xs) : DR K (upd F p (.lst vs)) (.ref p) (.lst xs) :=
  .lst upd_same (r.mono (Sub.new (R.sub.none hp)))
theorem Rel.newMut {F H : Hp} {ms : MS} {p : Addr} {vs : List V} {xs : List D} (R : Rel K F H ms) (hp : H p = none) (r : DRs K F vs xs) : (∀ q ∈ ms, q.1 ≠ p) ∧ Rel K F (upd H p (.lst vs)) ((p, xs) :: ms) := by
  have hne : ∀ q ∈ ms, q.1 ≠ p := fun q hq => by
    obtain ⟨h1, ws, h2, h3⟩ := R.mu q hq
    exact ne_of_none h2 hp
  refine ⟨hne, R.sub.trans (Sub.new hp), fun q hq => ?_, ?_, R.one⟩
  · rcases List.mem_cons.mp hq with rfl | hq
    · exact ⟨R.sub.none hp, vs, upd_same, r⟩
    · obtain ⟨h1, ws, h2, h3⟩ := R.mu q hq
      exact ⟨h1, ws, by rw [upd_ne (hne q hq)]; exact h2, h3⟩
  · rw [List.map_cons, List.nodup_cons]
    refine ⟨fun hm => ?_, R.nd⟩
    obtain ⟨q, hq, e⟩ := List.mem_map.mp hm
    exact hne q hq e
theorem Stp.newMut {F H : Hp} {ms : MS} {p : Addr} {vs : List V} {xs : List D} (hp : H p = none) : Stp F H ms F (upd H p (.lst vs)) ((p, xs) :: ms) :=
  ⟨Sub.refl F, fun a u h1 _ _ => by rw [upd_ne (ne_of_none h1 hp)]; exact h1, fun _ _ h => .inl h, fun q hq => by
    rcases List.mem_cons.mp hq with rfl | hq
    · exact .inr (.inl hp)
    · exact .inl ⟨q, hq, rfl⟩⟩
theorem pd_tup {x1} (h : PDA X es aa) : PD X (.Tuple es x1 pos) (dTup aa) := peImp (pe_tup h) fun σ H Q ⟨F, ds, ms, P, R, S, h1, h2⟩ =>
  ⟨F, ds, ms, _, R, S, h1, fun xs m vs F1 H1 p1 R1 s1 r1 => ⟨by rw [r1.length]; exact p1.1, fun p hp =>
    h2 _ m _ (upd F1 p (.tup vs)) _ p1.2 (R1.new hp) (s1.trans (Stp.new R1 hp)) (R1.newTup hp r1)⟩⟩
theorem pd_lst (h : PDA X es aa) : PD X (.List es pos) (dLst aa) := peImp (pe_lst h) fun σ H Q ⟨F, ds, ms, P, R, S, h1, h2⟩ =>
  ⟨F, ds, ms, _, R, S, h1, fun xs m vs F1 H1 p1 R1 s1 r1 => ⟨by rw [r1.length]; exact p1.1, fun p hp =>
    h2 _ m _ (upd F1 p (.lst vs)) _ p1.2 (R1.new hp) (s1.trans (Stp.new R1 hp)) (R1.newLst hp r1)⟩⟩
theorem pd_lstM (h : PDA X es aa) : PD X (.List es pos) (dLstM aa) := peImp (pe_lst h) fun σ H Q ⟨F, ds, ms, P, R, S, h1, h2⟩ =>
  ⟨F, ds, ms, _, R, S, h1, fun xs m vs F1 H1 p1 R1 s1 r1 => ⟨by rw [r1.length]; exact p1.1, fun p hp =>
    h2 _ ((p, xs) :: m) _ F1 _ (p1.2 p (R1.newMut hp r1).1) (R1.newMut hp r1).2 (s1.trans (Stp.newMut hp)) (.opq _)⟩⟩
def dTest (da : DE) : DT := fun ds ms P => da ds ms fun x m => match x with
  | .bl b => P b m
  | _ => False
theorem pdt_val (h : PD X e da) (he : ∀ whole, isTrue e X.env whole = (do let v ← whole; standAt e.pos; holding [v] (truthy v)) := by intro _; rfl) : PDT X e (dTest da) :=
  ptImp (pt_val h he) fun σ H Q ⟨F, ds, ms, P, R, S, h1, h2⟩ =>
    ⟨F, ds, ms, _, R, S, h1, fun d m v F1 H1 p1 R1 s1 r1 => by
      cases d with
      | bl b => cases r1; exact ⟨b, rfl, h2 b m F1 H1 p1 R1 s1⟩
      | _ => exact p1.elim⟩
theorem pdt_cmp {op : CmpOp} {r : R2} {f : OF} (ho : OpR X (compareOp op) r) (hf : OpD X.K r f) (ha : PD X a da) (hb : PD X b db) (hm : behindInMarks op b = false := by first | exact nomark _ | rfl) : PDT X (.Compare a [op] [b] pos) (dTest (dOp f da db)) :=
  ptImp (pt_cmpR ho ha hb hm) fun σ H Q ⟨F, ds, ms, P, R, S, h1, h2⟩ =>
    lift_op hf σ H _ ⟨F, ds, ms, _, R, S, h1, fun d m v F1 H1 p1 R1 s1 r1 => by
      cases d with
      | bl b => cases r1; exact ⟨b, rfl, h2 b m F1 H1 p1 R1 s1⟩
      | _ => exact p1.elim⟩
/-- a value's truth -/
def truD : D → MS → (Bool → Prop) → Prop := fun x ms P => match x with
  | .non => P false
  | .bl b => P b
  | .int i => P (i != 0)
  | .str y => y.length ≤ sizeLine ∧ P ((y.length : Int) != 0)
  | .lst xs => P (!xs.isEmpty)
  | .fro xs => P (!xs.isEmpty)
  | .tup xs => P (!xs.isEmpty)
  | _ => False
def dTru (da : DE) : DT := fun ds ms P => da ds ms fun x m => truD x m fun b => P b m
def dNot (dt : DT) : DT := fun ds ms P => dt ds ms fun b m => P (!b) m
def dAnd (dt du : DT) : DT := fun ds ms P => dt ds ms fun b m => if b = true then du ds m P else P false m
def dOr (dt du : DT) : DT := fun ds ms P => dt ds ms fun b m => if b = true then P true m else du ds m P
variable {dt du : DT} {rest : List Expr}
theorem pdt_not (h : PDT X e dt) : PDT X (.UnaryOp .Not e pos) (dNot dt) := ptImp (pt_not h) fun σ H Q ⟨F, ds, ms, P, R, S, h1, h2⟩ =>
  ⟨F, ds, ms, _, R, S, h1, fun b m F1 H1 p1 R1 s1 => h2 _ m F1 H1 p1 R1 s1⟩
abbrev PDW (X : Cx) (e : Expr) (dt : DT) : Prop := PW X e (liftT X.K dt)
theorem pdw_and1 (h : PDT X e dt) : PDW X (.BoolOp .And [e] pos) dt := pw_and1 h
theorem pdw_or1 (h : PDT X e dt) : PDW X (.BoolOp .Or [e] pos) dt := pw_or1 h
theorem pdw_and (h : PDT X a dt) (hb : PDW X (.BoolOp .And (b :: rest) pos) du) : PDW X (.BoolOp .And (a :: b :: rest) pos) (dAnd dt du) := pwImp (pw_and h hb) fun σ H Q ⟨F, ds, ms, P, R, S, h1, h2⟩ =>
  ⟨F, ds, ms, _, R, S, h1, fun k m F1 H1 p1 R1 s1 => by
    cases k with
    | true =>
      rw [if_pos rfl] at p1 ⊢
      exact ⟨F1, ds, m, P, R1, S.mono s1.sub, p1, fun k2 m2 F2 H2 p2 R2 s2 => h2 k2 m2 F2 H2 p2 R2 (s1.trans s2)⟩
    | false =>
      rw [if_neg Bool.false_ne_true] at p1 ⊢
      exact h2 _ m F1 H1 p1 R1 s1⟩
theorem pdw_or (h : PDT X a dt) (hb : PDW X (.BoolOp .Or (b :: rest) pos) du) : PDW X (.BoolOp .Or (a :: b :: rest) pos) (dOr dt du) := pwImp (pw_or h hb) fun σ H Q ⟨F, ds, ms, P, R, S, h1, h2⟩ =>
  ⟨F, ds, ms, _, R, S, h1, fun k m F1 H1 p1 R1 s1 => by
    cases k with
    | false =>
      rw [if_neg Bool.false_ne_true] at p1 ⊢
      exact ⟨F1, ds, m, P, R1, S.mono s1.sub, p1, fun k2 m2 F2 H2 p2 R2 s2 => h2 k2 m2 F2 H2 p2 R2 (s1.trans s2)⟩
    | true =>
      rw [if_pos rfl] at p1 ⊢
      exact h2 _ m F1 H1 p1 R1 s1⟩
theorem pdt_w (h : PDW X e dt) : PDT X e dt := h.pt
def dAndV (da db : DE) : DE := fun ds ms P => da ds ms fun x m => match x with
  | .bl b => if b = true then db ds m P else P (.bl false) m
  | _ => False
def dOrV (da db : DE) : DE := fun ds ms P => da ds ms fun x m => match x with
  | .bl b => if b = true then P (.bl true) m else db ds m P
  | _ => False
def dNotV (da : DE) : DE := fun ds ms P => da ds ms fun x m => match x with
  | .bl b => P (.bl (!b)) m
  | _ => False
theorem pd_one {op} (h : PD X e da) : PD X (.BoolOp op [e] pos) da := pe_one h
theorem pd_and (h : PD X a da) (hb : PD X (.BoolOp .And (b :: rest) pos) db) : PD X (.BoolOp .And (a :: b :: rest) pos) (dAndV da db) := peImp (pe_and h hb) fun σ H Q ⟨F, ds, ms, P, R, S, h1, h2⟩ =>
  ⟨F, ds, ms, _, R, S, h1, fun k m v F1 H1 p1 R1 s1 r1 => by
    cases k with
    | bl k =>
      cases r1
      refine ⟨k, rfl, ?_⟩
      cases k with
      | true =>
        simp only [if_true] at p1 ⊢
        exact ⟨F1, ds, m, P, R1, S.mono s1.sub, p1, fun k2 m2 v2 F2 H2 p2 R2 s2 r2 => h2 k2 m2 v2 F2 H2 p2 R2 (s1.trans s2) r2⟩
      | false =>
        simp only [if_neg Bool.false_ne_true] at p1 ⊢
        exact h2 _ m _ F1 H1 p1 R1 s1 (.bl false)
    | _ => exact p1.elim⟩
theorem pd_not (h : PD X e da) : PD X (.UnaryOp .Not e pos) (dNotV da) := peImp (pe_not h) fun σ H Q ⟨F, ds, ms, P, R, S, h1, h2⟩ =>
  ⟨F, ds, ms, _, R, S, h1, fun k m v F1 H1 p1 R1 s1 r1 => by
    cases k with
    | bl k => cases r1; exact ⟨k, rfl, h2 _ m _ F1 H1 p1 R1 s1 (.bl _)⟩
    | _ => exact p1.elim⟩
def dIf (dt : DT) (da db : DE) : DE := fun ds ms P => dt ds ms fun b m => if b = true then da ds m P else db ds m P
def dNeg (da : DE) : DE := fun ds ms P => da ds ms fun x m => match x with
  | .int i => P (.int (-i)) m
  | _ => False
theorem pd_neg (h : PD X e da) : PD X (.UnaryOp .USub e pos) (dNeg da) := peImp (pe_un un_neg h) fun σ H Q ⟨F, ds, ms, P, R, S, h1, h2⟩ =>
  ⟨F, ds, ms, _, R, S, h1, fun k m v F1 H1 p1 R1 s1 r1 => by
    cases k with
    | int k => cases r1; exact ⟨k, rfl, h2 _ m _ F1 H1 p1 R1 s1 (.int _)⟩
    | _ => exact p1.elim⟩
end
structure EN where
  nx : DS → MS → Prop
  rt : D → MS → Prop
  bk : DS → MS → Prop := fun _ _ => False
  ct : DS → MS → Prop := fun _ _ => False
  ex : Str → List Str → List D → DS → MS → Prop := fun _ _ _ _ _ => False
abbrev DTS := EN → DS → MS → Prop
def liftS (K : PySem.W.Frag) (t : DTS) : TS := fun D σ H => ∃ F ds ms E, Rel K F H ms ∧ Sl K F σ ds ∧ t E ds ms ∧
  (∀ ds' ms' σ' F' H', E.nx ds' ms' → Rel K F' H' ms' → Stp F H ms F' H' ms' → Sl K F' σ' ds' → D.nx σ' H') ∧
  (∀ d ms' v F' H', E.rt d ms' → Rel K F' H' ms' → Stp F H ms F' H' ms' → DR K F' v d → D.rt v H') ∧
  (∀ ds' ms' σ' F' H', E.bk ds' ms' → Rel K F' H' ms' → Stp F H ms F' H' ms' → Sl K F' σ' ds' → D.bk σ' H') ∧
  (∀ ds' ms' σ' F' H', E.ct ds' ms' → Rel K F' H' ms' → Stp F H ms F' H' ms' → Sl K F' σ' ds' → D.ct σ' H')
abbrev PDS (X : Cx) (st : Stmt) (t : DTS) : Prop := PS X st (liftS X.K t)
abbrev PDSs (X : Cx) (st : List Stmt) (t : DTS) : Prop := PSs X st (liftS X.K t)
def dNext : DTS := fun E ds ms => E.nx ds ms
def dBreak : DTS := fun E ds ms => E.bk ds ms
def dCont : DTS := fun E ds ms => E.ct ds ms
def dSeq (t u : DTS) : DTS := fun E ds ms => t { E with nx := u E } ds ms
def dRet (de : DE) : DTS := fun E ds ms => de ds ms E.rt
def dRetN : DTS := fun E ds ms => E.rt .non ms
def dDrop (de : DE) : DTS := fun E ds ms => de ds ms fun _ m => E.nx ds m
def dIfS (c : DT) (t u : DTS) : DTS := fun E ds ms => c ds ms fun b m => if b = true then t E ds m else u E ds m
def dNever : DTS := fun _ _ _ => False
section
variable {X : Cx} {K : PySem.W.Frag} {da db dc : DE} {a b c e : Expr} {es : List Expr} {pos : Pos} {aa : DA} {st : Stmt} {rest : List Stmt} {t u : DTS} {dt : DT}
theorem pds_nil : PDSs X [] dNext := pssImp pss_nil fun D σ H ⟨F, ds, ms, E, R, S, h, n, r, k, q⟩ => n ds ms σ F H h R Stp.refl S
theorem lift_seq : ∀ D σ H, liftS K (dSeq t u) D σ H → tSeq (liftS K t) (liftS K u) D σ H := fun D σ H ⟨F, ds, ms, E, R, S, h, n, r, k, q⟩ =>
  ⟨F, ds, ms, { E with nx := u E }, R, S, h, fun ds1 m1 σ1 F1 H1 h1 R1 s1 S1 => ⟨F1, ds1, m1, E, R1, S1, h1,
    fun ds2 m2 σ2 F2 H2 h2 R2 s2 S2 => n ds2 m2 σ2 F2 H2 h2 R2 (s1.trans s2) S2, fun d m2 v F2 H2 h2 R2 s2 r2 => r d m2 v F2 H2 h2 R2 (s1.trans s2) r2,
    fun ds2 m2 σ2 F2 H2 h2 R2 s2 S2 => k ds2 m2 σ2 F2 H2 h2 R2 (s1.trans s2) S2, fun ds2 m2 σ2 F2 H2 h2 R2 s2 S2 => q ds2 m2 σ2 F2 H2 h2 R2 (s1.trans s2) S2⟩, r, k, q⟩
theorem pds_cons (h1 : PDS X st t) (h2 : PDSs X rest u) : PDSs X (st :: rest) (dSeq t u) := pssImp (pss_cons h1 h2) lift_seq
theorem pds_one (h1 : PDS X st t) : PDSs X [st] t := pss_one h1
theorem pds_never : PDS X st dNever := psImp ps_never fun D σ H ⟨F, ds, ms, E, R, S, h, n, r, k, q⟩ => h
theorem pds_expr (he : PD X e da) (hs : swapsWith e none pos.line X.env = pure false := by rfl) : PDS X (.Expr e pos) (dDrop da) := psImp (ps_expr he hs) fun D σ H ⟨F, ds, ms, E, R, S, h, n, r, k, q⟩ =>
  ⟨F, ds, ms, _, R, S, h, fun d m v F1 H1 p1 R1 s1 r1 => n ds m σ F1 H1 p1 R1 s1 (S.mono s1.sub)⟩
theorem pds_ret (he : PD X e da) : PDS X (.Return (some e) pos) (dRet da) := psImp (ps_ret he) fun D σ H ⟨F, ds, ms, E, R, S, h, n, r, k, q⟩ =>
  ⟨F, ds, ms, _, R, S, h, fun d m v F1 H1 p1 R1 s1 r1 => r d m v F1 H1 p1 R1 s1 r1⟩
theorem pds_if {x y : List Stmt} (hc : PDT X c dt) (ha : PDSs X x t) (hb : PDSs X y u) : PDS X (.If c x y pos) (dIfS dt t u) := psImp (ps_if hc ha hb) fun D σ H ⟨F, ds, ms, E, R, S, h, n, r, k, q⟩ =>
  ⟨F, ds, ms, _, R, S, h, fun b m F1 H1 p1 R1 s1 => by
    have mk : ∀ {w : DTS}, w E ds m → liftS X.K w D σ H1 := fun {w} hw => ⟨F1, ds, m, E, R1, S.mono s1.sub, hw,
      fun ds2 m2 σ2 F2 H2 h2 R2 s2 S2 => n ds2 m2 σ2 F2 H2 h2 R2 (s1.trans s2) S2, fun d m2 v F2 H2 h2 R2 s2 r2 => r d m2 v F2 H2 h2 R2 (s1.trans s2) r2,
      fun ds2 m2 σ2 F2 H2 h2 R2 s2 S2 => k ds2 m2 σ2 F2 H2 h2 R2 (s1.trans s2) S2, fun ds2 m2 σ2 F2 H2 h2 R2 s2 S2 => q ds2 m2 σ2 F2 H2 h2 R2 (s1.trans s2) S2⟩
    cases b with
    | true => rw [if_pos rfl] at p1; exact iteT (mk p1)
    | false => rw [if_neg Bool.false_ne_true] at p1; exact iteF (mk p1)⟩
abbrev DG := D → DS → (DS → Prop) → Prop
abbrev DGs := List D → DS → (DS → Prop) → Prop
structure TgD (K : PySem.W.Frag) (g : TG) (dg : DG) (vs : List Nat) : Prop where
  snd : ∀ (v : V) (σ : L2.St) (F H : Hp) (Q : L2.St → Hp → Prop) (d : D) (ds : DS) (P : DS → Prop), Sub F H → Sl K F σ ds → DR K F v d → dg d ds P → (∀ ds' σ', P ds' → Sl K F σ' ds' → Q σ' H) → g v σ H Q
  wip : ∀ (v : V) (σ : L2.St) (H : Hp) (Q : L2.St → Hp → Prop), g v σ H Q → g v σ H fun σ2 H2 => wipe σ2 vs = wipe σ vs ∧ Q σ2 H2
structure TgsD (K : PySem.W.Frag) (g : TGs) (dg : DGs) (vs : List Nat) : Prop where
  snd : ∀ (xs : List V) (σ : L2.St) (F H : Hp) (Q : L2.St → Hp → Prop) (d : List D) (ds : DS) (P : DS → Prop), Sub F H → Sl K F σ ds → DRs K F xs d → dg d ds P → (∀ ds' σ', P ds' → Sl K F σ' ds' → Q σ' H) → g xs σ H Q
  wip : ∀ (v : List V) (σ : L2.St) (H : Hp) (Q : L2.St → Hp → Prop), g v σ H Q → g v σ H fun σ2 H2 => wipe σ2 vs = wipe σ vs ∧ Q σ2 H2
def sName (i : Nat) : DG := fun d ds P => P (setSlot ds i d)
def sNil : DGs := fun xs ds P => match xs with
  | [] => P ds
  | _ => False
def sCons (g : DG) (gs : DGs) : DGs := fun xs ds P => match xs with
  | x :: r => g x ds fun ds1 => gs r ds1 P
  | [] => False
def sTup (n : Nat) (gs : DGs) : DG := fun d ds P => match d with
  | .tup xs => xs.length = n ∧ gs xs ds P
  | _ => False
theorem wipe_set {σ : L2.St} {o : Option V} {i : Nat} : ∀ {vs : List Nat}, i ∈ vs → wipe (σ.set i o) vs = wipe σ vs
  | [], h => absurd h (by simp)
  | v :: vs, h => by
    show (wipe (σ.set i o) vs).set v none = (wipe σ vs).set v none
    by_cases hv : i = v
    · subst hv
      have key : ∀ (ws : List Nat), (wipe (σ.set i o) ws).set i none = (wipe σ ws).set i none := by
        intro ws
        induction ws with
        | nil => show (σ.set i o).set i none = σ.set i none; rw [List.set_set]
        | cons w ws ih =>
          show ((wipe (σ.set i o) ws).set w none).set i none = ((wipe σ ws).set w none).set i none
          by_cases hw : w = i
          · subst hw; rw [List.set_set, List.set_set, ih]
          · rw [List.set_comm _ _ hw, List.set_comm _ _ hw, ih]
      exact key vs
    · rw [wipe_set ((List.mem_cons.mp h).resolve_left hv)]
theorem tg_name {i : Nat} {vs : List Nat} (h : i ∈ vs) : TgD K (gName i) (sName i) vs :=
  ⟨fun v σ F H Q d ds P sb S r hp q => q _ _ hp (S.set r i), fun v σ H Q h1 => ⟨wipe_set h, h1⟩⟩
theorem tgs_nil {vs : List Nat} : TgsD K gNil sNil vs :=
  ⟨fun xs σ F H Q d ds P sb S r hp q => by
    cases r with
    | nil => exact ⟨rfl, q _ _ hp S⟩
    | cons _ _ => exact hp.elim, fun v σ H Q h1 => ⟨h1.1, rfl, h1.2⟩⟩
theorem tgs_cons {g : TG} {gs : TGs} {dg : DG} {dgs : DGs} {vs : List Nat} (h : TgD K g dg vs) (hs : TgsD K gs dgs vs)
    (mg : ∀ v σ H (Q Q' : L2.St → Hp → Prop), (∀ s h, Q s h → Q' s h) → g v σ H Q → g v σ H Q') : TgsD K (gCons g gs) (sCons dg dgs) vs := by
  refine ⟨fun xs σ F H Q d ds P sb S r hp q => ?_, fun v σ H Q h1 => ?_⟩
  · cases r with
    | nil => exact hp.elim
    | cons r rs => exact ⟨_, _, rfl, h.snd _ _ F H _ _ _ _ sb S r hp fun ds1 σ1 h1 S1 => hs.snd _ _ F H _ _ _ _ sb S1 rs h1 q⟩
  · obtain ⟨x, r, e, h2⟩ := h1
    refine ⟨x, r, e, mg _ _ _ _ _ (fun σ1 H1 z => ?_) (h.wip _ _ _ _ h2)⟩
    obtain ⟨z1, z2⟩ := z
    have z3 := hs.wip _ _ _ _ z2
    rw [z1] at z3
    exact z3
theorem tg_tup {gs : TGs} {dgs : DGs} {vs : List Nat} {n : Nat} (hs : TgsD K gs dgs vs) : TgD K (gTup K n gs) (sTup n dgs) vs := by
  refine ⟨fun v σ F H Q d ds P sb S r hp q => ?_, fun v σ H Q h1 => ?_⟩
  · cases r with
    | tup h rs => exact ⟨_, _, rfl, sb.sqT h, by rw [rs.length]; exact hp.1, hs.snd _ _ F H _ _ _ _ sb S rs hp.2 q⟩
    | _ => exact hp.elim
  · obtain ⟨a, xs, e, h2, h3, h4⟩ := h1
    exact ⟨a, xs, e, h2, h3, hs.wip _ _ _ _ h4⟩
def MonG (g : TG) : Prop := ∀ v σ H (Q Q' : L2.St → Hp → Prop), (∀ s h, Q s h → Q' s h) → g v σ H Q → g v σ H Q'
def MonGs (g : TGs) : Prop := ∀ v σ H (Q Q' : L2.St → Hp → Prop), (∀ s h, Q s h → Q' s h) → g v σ H Q → g v σ H Q'
theorem mon_name {i : Nat} : MonG (gName i) := fun v σ H Q Q' h q => h _ _ q
theorem mon_nil : MonGs gNil := fun v σ H Q Q' h q => ⟨q.1, h _ _ q.2⟩
theorem mon_cons {g : TG} {gs : TGs} (a : MonG g) (b : MonGs gs) : MonGs (gCons g gs) := fun v σ H Q Q' h q =>
  let ⟨x, r, e, z⟩ := q; ⟨x, r, e, a _ _ _ _ _ (fun s hh z => b _ _ _ _ _ h z) z⟩
theorem mon_tup {gs : TGs} {n : Nat} (b : MonGs gs) : MonG (gTup K n gs) := fun v σ H Q Q' h q =>
  let ⟨a, xs, e, h2, h3, h4⟩ := q; ⟨a, xs, e, h2, h3, b _ _ _ _ _ h h4⟩
def dAsg (de : DE) (g : DG) : DTS := fun E ds ms => de ds ms fun d m => g d ds fun ds1 => E.nx ds1 m
theorem lift_asg {g : TG} {dg : DG} {vs : List Nat} (hg : TgD K g dg vs) : ∀ D σ H, liftS K (dAsg da dg) D σ H → tAsg (lift K da) g D σ H := fun D σ H ⟨F, ds, ms, E, R, S, h, n, r, k, q⟩ =>
  ⟨F, ds, ms, _, R, S, h, fun d m v F1 H1 p1 R1 s1 r1 => hg.snd v σ F1 H1 _ d ds _ R1.sub (S.mono s1.sub) r1 p1 fun ds1 σ1 h1 S1 => n ds1 m σ1 F1 H1 h1 R1 s1 S1⟩
theorem pds_set {i : Nat} {x : Str} {pos' : Pos} (hN : X.N.Nodup) (hi : X.N[i]? = some x) (hx : Loc X.env.scope x) (he : PD X e da) (hs : swapsWith e (some (.Name x pos')) pos.line X.env = pure false := by rfl)
    (hf : X.fn x = true ∨ X.env.scope.names.lookup x = some .local := by first | exact .inl rfl | exact .inr rfl | assumption) : PDS X (.Assign [.Name x pos'] e pos) (dAsg da (sName i)) :=
  psImp (ps_set hN hi hx he hs hf) (lift_asg (vs := [i]) (tg_name (by simp)))
theorem pds_asg {tg : Expr} {g : TG} {dg : DG} {vs : List Nat} (he : PD X e da) (hg : PG X tg g) (hd : TgD X.K g dg vs) (hs : swapsWithSole [tg] e pos.line X.env = pure false := by rfl) (hw : swappedStores [tg] e X.env = pure none := by rfl)
    (h1 : (assignEach [tg] X.env).map (·.2) = [assign tg X.env] := by rfl) : PDS X (.Assign [tg] e pos) (dAsg da dg) :=
  psImp (ps_asg he hg hs hw h1) (lift_asg hd)
/-- a, b = x, y with plain local names -/
def dPar (i j : Nat) (aa : DA) : DTS := fun E ds ms => aa ds ms fun xs m => match xs with
  | [x, y] => E.nx (setSlot (setSlot ds i x) j y) m
  | _ => False
end
end DL
namespace DL
open PySem PySem.Spec PyProof.Rows L2
structure RoomG (k : Nat) (A : Around) : Prop where
  r : Room k A
  g : A.guards = some []
theorem RoomG.mono {j k : Nat} {A : Around} (r : RoomG k A) (h : j ≤ k) : RoomG j A := ⟨r.r.mono h, r.g⟩
structure FnG (P : Program) (w : World) (K : PySem.W.Frag) (mg : Str → Option Value) (base : Heap) (k : Nat) (f : Addr) (fd : FuncData) (ps : List Str) (sp : Sp) : Prop where
  len : ∀ vs H Q E, sp vs H Q E → vs.length = ps.length
  go : ∀ (A : Around) (outer : List Env) (s : Shared) (H : Hp) (args : Args) (us : List Value) (vs : List V) (Q : VK), RoomG k A → Env0 P w K mg base A outer s H →
    BindsTo s fd args (ps.zip us) → Vals vs us → sp vs H Q E0 → codeAny (model P w) A (.call (.ref f) args) (CR CX0 outer P w H s Q E0) s
/-- which values go to the parameters: by their places among the positional ones and then the keywords -/
def pick {α : Type} (is : List Nat) (xs : List α) : List α := is.filterMap fun i => xs[i]?
theorem pick_vals {vs : List V} {us : List Value} (r : Vals vs us) : ∀ is : List Nat, Vals (pick is vs) (pick is us)
  | [] => .nil
  | i :: is => by
    unfold pick
    rw [List.filterMap_cons, List.filterMap_cons]
    cases e : vs[i]? with
    | none => rw [r.none_of e]; exact pick_vals r is
    | some v =>
      obtain ⟨u, h1, h2⟩ := r.get e
      rw [h1]
      exact .cons h2 (pick_vals r is)
theorem pick_drs {K : PySem.W.Frag} {F : Hp} {vs : List V} {xs : List D} (r : DRs K F vs xs) : ∀ is : List Nat, DRs K F (pick is vs) (pick is xs)
  | [] => .nil
  | i :: is => by
    unfold pick
    rw [List.filterMap_cons, List.filterMap_cons]
    cases e : vs[i]? with
    | none =>
      have h : xs[i]? = none := by
        have h1 := r.length
        have h2 := List.getElem?_eq_none_iff.mp e
        exact List.getElem?_eq_none_iff.mpr (by omega)
      rw [h]; exact pick_drs r is
    | some v =>
      obtain ⟨u, h1, h2⟩ := r.getV e
      rw [h1]
      exact .cons h2 (pick_drs r is)
structure Bnd (K : PySem.W.Frag) (fd : FuncData) (ps : List Str) (n : Nat) (ks : List Str) (is : List Nat) : Prop where
  to : ∀ (s : Shared) (us ws : List Value), K.In s.heap → us.length = n → ws.length = ks.length → BindsTo s fd ⟨us, ks.zip ws⟩ (ps.zip (pick is (us ++ ws)))
abbrev FS := List D → MS → (D → MS → Prop) → Prop
def spD (K : PySem.W.Frag) (fs : FS) : Sp := fun vs H Q _ => ∃ F ds ms P, Rel K F H ms ∧ DRs K F vs ds ∧ fs ds ms P ∧
  ∀ d ms' v F' H', P d ms' → Rel K F' H' ms' → Stp F H ms F' H' ms' → DR K F' v d → Q v H'
section
variable {X : Cx} {k n : Nat} {f : Addr} {fd : FuncData} {ps ks : List Str} {is : List Nat} {sp : Sp} {fs : FS} {x : Str} {p pos kpos : Pos} {e : Expr} {es : List Expr} {kws : List Keyword} {aa ak : DA} {da : DE} {nm : Option Str}
theorem run_g {pins : List (Addr × Obj)} {σ : L2.St} {H : Hp} {s : Shared} {Q : VK} {us ws : List Value} {vs zs : List V} (F : FnG X.prog X.w X.K X.mg X.base k f fd ps sp) (hr : RoomG k X.A) (hb : Bnd X.K fd ps n ks is)
    (I : Inv X pins σ H s) (r : Vals vs us) (rz : Vals zs ws) (l1 : vs.length = n) (l2 : zs.length = ks.length) (h : sp (pick is (vs ++ zs)) H Q E0) :
    wpAny (model X.prog X.w) X.A (call (.ref f) us (ks.zip ws)) (EP X pins σ Q) X.xe s := by
  have hb' := hb.to s us ws I.kIn (r.length ▸ l1) (rz.length ▸ l2)
  have hg := F.go X.A X.stack s H ⟨us, ks.zip ws⟩ _ _ Q hr I.env0 hb' (pick_vals (r.append rz) is) h
  refine wpAny_call (codeAny_mono hg fun r s' hq => ?_)
  match r, hq with
  | .error _, hq => exact hq.elim
  | .ok (.ret u), hq => exact I.after hq
  | .ok .next, hq => exact False.elim hq
  | .ok .brk, hq => exact False.elim hq
  | .ok .cont, hq => exact False.elim hq
abbrev PDK (X : Cx) (kws : List Keyword) (aa : DA) : Prop := PK X kws (liftA X.K aa)
theorem pkImp {X : Cx} {e : List Keyword} {t t' : TA} (h : PK X e t) (hi : ∀ σ H Q, t' σ H Q → t σ H Q) : PK X e t' := ⟨fun pos pins s σ H Q I hq => h.run pos pins s σ H Q I (hi σ H Q hq)⟩
theorem pdk_nil : PDK X [] aNil := pkImp pk_nil fun σ H Q ⟨F, ds, ms, P, R, S, h1, h2⟩ => h2 [] ms [] F H h1 R Stp.refl .nil
theorem pdk_cons (ha : PD X e da) (hr : PDK X kws aa) : PDK X (⟨nm, e, kpos⟩ :: kws) (aCons da aa) :=
  pkImp (pk_cons ha hr) fun σ H Q ⟨F, ds, ms, P, R, S, h1, h2⟩ =>
    ⟨F, ds, ms, _, R, S, h1, fun dx m1 x F1 H1 p1 R1 s1 r1 => ⟨F1, ds, m1, _, R1, S.mono s1.sub, p1, fun xs m2 vs F2 H2 p2 R2 s2 r2 =>
      h2 _ m2 (x :: vs) F2 H2 p2 R2 (s1.trans s2) (.cons (r1.mono s2.sub) r2)⟩⟩
/-- f(..): n positional ones, the others by keywords -/
def dCall (n : Nat) (m : Nat) (is : List Nat) (fs : FS) (aa ak : DA) : DE := fun ds ms P => aa ds ms fun xs m1 => ak ds m1 fun zs m2 => xs.length = n ∧ zs.length = m ∧ fs (pick is (xs ++ zs)) m2 P
def tCallG (n m : Nat) (is : List Nat) (sp : Sp) (t tk : TA) : TE := fun σ H Q => t σ H fun vs H1 => tk σ H1 fun zs H2 => vs.length = n ∧ zs.length = m ∧ sp (pick is (vs ++ zs)) H2 Q E0
theorem lift_call {K : PySem.W.Frag} {m : Nat} : ∀ σ H Q, lift K (dCall n m is fs aa ak) σ H Q → tCallG n m is (spD K fs) (liftA K aa) (liftA K ak) σ H Q := fun σ H Q ⟨F, ds, ms, P, R, S, h1, h2⟩ =>
  ⟨F, ds, ms, _, R, S, h1, fun xs m1 vs F1 H1 p1 R1 s1 r1 => ⟨F1, ds, m1, _, R1, S.mono s1.sub, p1, fun zs m2 ws F2 H2 p2 R2 s2 r2 => by
    obtain ⟨l1, l2, p2⟩ := p2
    refine ⟨r1.length.trans l1, r2.length.trans l2, F2, _, m2, P, R2, pick_drs ((r1.mono s2.sub).append r2) is, p2, fun d m3 v F3 H3 p3 R3 s3 r3 => ?_⟩
    exact h2 d m3 v F3 H3 p3 R3 (s1.trans (s2.trans s3)) r3⟩⟩
theorem pd_call (F : FnG X.prog X.w X.K X.mg X.base k f fd ps (spD X.K fs)) (hr : RoomG k X.A) (hg : Gl X x) (hm : X.mg x = some (.ref f)) (hk : PySem.W.keepIn X.K (.ref f) = true) (hb : Bnd X.K fd ps n [] is)
    (ha : PDA X (e :: es) aa) (hdb : (x == ("__debug__" : Str)) = false := by decide)
    (he : starEach (e :: es) X.env = (false, eval e X.env) :: starEach es X.env := by rfl)
    (hpl : (backTo pos (starEach es X.env)).any (·.1) = false := by rfl) :
    PD X (.Call (.Name x p) (e :: es) [] pos) (dCall n 0 is fs aa aNil) := by
  refine peImp (t := tCallG n 0 is (spD X.K fs) (liftA X.K aa) (liftA X.K aNil)) ⟨fun pins s σ H Q I h => ?_⟩ lift_call
  have h' : liftA X.K aa σ H (fun vs H1 => vs.length = n ∧ spD X.K fs (pick is (vs ++ [])) H1 Q E0) := by
    obtain ⟨F0, ds, ms, P, R, S, h1, h2⟩ := h
    refine ⟨F0, ds, ms, P, R, S, h1, fun xs m v F1 H1 p1 R1 s1 r1 => ?_⟩
    obtain ⟨F2, ds2, m2, P2, R2, S2, p2, q2⟩ := h2 xs m v F1 H1 p1 R1 s1 r1
    obtain ⟨l1, l2, z⟩ := q2 [] m2 [] F2 H1 p2 R2 Stp.refl .nil
    exact ⟨l1, z⟩
  refine wpAny_Call_Name_kw (ld_glob I hg hm ?_ hdb)
  refine PySem.W.callWith_K (h₀ := X.base) I.ok.mod.kin hk (thn (ha.run pos pins s σ H _ I h') ?_) he hpl
  rintro us s1 ⟨vs, H1, I1, r, l, q⟩
  exact ⟨I1.kIn, run_g (ws := []) (ks := []) F hr hb I1 r .nil l rfl q⟩
end
def startD : Nat → List D → DS
  | 0, _ => []
  | n + 1, [] => none :: startD n []
  | n + 1, d :: r => some d :: startD n r
theorem sl_start {K : PySem.W.Frag} {F : Hp} {N : List Str} {vs : List V} {ds : List D} (r : DRs K F vs ds) (hl : vs.length ≤ N.length) : Sl K F (L2.start N vs) (startD N.length ds) := by
  unfold L2.start
  have hrep : ∀ m : Nat, Sl K F (List.replicate m none) (startD m []) := fun m => by
    induction m with
    | zero => exact .nil
    | succ m ih => exact .nn ih
  have go : ∀ {vs : List V} {ds : List D} (m : Nat), DRs K F vs ds → vs.length ≤ m → Sl K F (vs.map some ++ List.replicate (m - vs.length) none) (startD m ds) := by
    intro vs
    induction vs with
    | nil => intro ds m r _; cases r; exact hrep m
    | cons v vs ih =>
      intro ds m r hm
      cases r with
      | cons r1 r2 =>
        cases m with
        | zero => simp at hm
        | succ m =>
          have e : m + 1 - (v :: vs).length = m - vs.length := by rw [List.length_cons]; omega
          rw [e]
          exact .sm r1 (ih m r2 (by rw [List.length_cons] at hm; omega))
  exact go _ r hl
theorem fnG_of {P : Program} {w : World} {K : PySem.W.Frag} {mg : Str → Option Value} {base : Heap} {k : Nat} {f : Addr} {fd : FuncData} {x qual : Str} {st : Stmt} {N ps : List Str} {fs : FS} {t : DTS}
    (F : Fun K x qual st f fd) (S : FnScope N ps (defScope st)) (len : ∀ ds ms Q, fs ds ms Q → ds.length = ps.length)
    (body : ∀ (cdv : Value) (A : Around) (outer : List Env) (s : Shared) (H : Hp), RoomG k (A.deeper (envOfC qual (defScope st) s.heap.objs.size f cdv)) →
      PDSs (cxOf CX0 P w K mg base N qual (defScope st) f cdv A outer s H E0).nox (defBody st) t)
    (sem : ∀ ds ms Q, fs ds ms Q → t { nx := fun _ m => Q .non m, rt := Q } (startD N.length ds) ms) : FnG P w K mg base (k + 1) f fd ps (spD K fs) := by
  have hlen : ∀ vs H Q E, spD K fs vs H Q E → vs.length = ps.length := by
    rintro vs H Q E ⟨F0, ds, ms, P0, R, r, h, _⟩
    rw [r.length]
    exact len ds ms P0 h
  refine ⟨hlen, ?_⟩
  intro A outer s H args us vs Q hr e0 hb r hsp
  obtain ⟨oc, od, kV, doc, pm, an, cdv, ct, osl, rfl, lk, hcd⟩ := F.ex
  have hl := hlen _ _ _ _ hsp
  have KX : K.In s.heap := e0.mod.kin.keeps fun b o e => (e0.bs b o e).1
  have lim : s.heap.NoLimit := e0.mod.nolimit.keeps fun b o e => (e0.bs b o e).1
  have hkind : ∀ y ∈ ps.zip us, (defScope st).names.lookup y.1 = some .local ∨ ((defScope st).names.lookup y.1 = some .cell ∧
      ((cellsFrom (s.heap.objs.size + 1) (defScope st).names []).lookup y.1).isSome = true) := by
    rintro ⟨n, v⟩ hy
    exact (S.par n (List.of_mem_zip hy).1).imp id fun q => ⟨q, PySem.W.cellsFrom_some _ _ _ (.inl q)⟩
  have hr2 : RoomG k (A.deeper (envOfC qual (defScope st) s.heap.objs.size f cdv)) := ⟨hr.r.deeper _, hr.g⟩
  refine codeAny_call_function hr.r.depth (KX _ _ lk) rfl S.co S.gen rfl (PySem.W.codeRec_of KX hcd) (hb _ _ _ _ ?_)
  refine wpAny_newFunctionEnv_cells S.kind hkind fun env he s1 x1 => ?_
  subst he
  refine ⟨lim.keeps x1.toInCall.keep, codeAny_func ?_⟩
  have I : Inv (cxOf CX0 P w K mg base N qual (defScope st) f cdv A outer s H E0) [] (L2.start N vs) H s1 := inv_start S hr.r.hd e0 hl r x1
  have hq : liftS K t { nx := fun _ H' => Q .non H', rt := Q } (L2.start N vs) H := by
    obtain ⟨F0, ds, ms, P0, R, rd, h, q⟩ := hsp
    refine ⟨F0, startD N.length ds, ms, _, R, sl_start rd (by rw [hl, ← S.pre]; exact List.length_take_le' _ _), sem ds ms P0 h, ?_, ?_, ?_, ?_⟩
    · exact fun ds' ms' σ' F' H' z R' s' S' => q .non ms' .non F' H' z R' s' .non
    · exact fun d ms' v F' H' z R' s' r' => q d ms' v F' H' z R' s' r'
    · exact fun _ _ _ _ _ z _ _ _ => z.elim
    · exact fun _ _ _ _ _ z _ _ _ => z.elim
  have hrun := ((body cdv A outer s H hr2).nox).run [] s1 (L2.start N vs) H _ I hq
  refine wpAny_mono hrun (fun fl s' hs => ?_) fun e s' hs => hs
  match fl, hs with
  | .ret u, hs =>
    obtain ⟨v, σ', H', J, rv, q⟩ := hs
    exact ⟨v, H', J.os, J.bare, J.base, J.hok, rv, q⟩
  | .next, hs =>
    obtain ⟨σ', H', J, q⟩ := hs
    exact ⟨V.non, H', J.os, J.bare, J.base, J.hok, rfl, q⟩
  | .brk, hs => obtain ⟨_, _, _, q⟩ := hs; exact False.elim q
  | .cont, hs => obtain ⟨_, _, _, q⟩ := hs; exact False.elim q
end DL
namespace DL
open PySem PySem.Spec PyProof.Rows L2
abbrev DI := DS → MS → (List D → MS → Prop) → Prop
def YD (K : PySem.W.Frag) (F : Hp) (xs : List D) : Nat → Hp → V → Hp → Prop := fun i H x H' => ∃ d, xs[i]? = some d ∧
  ((H' = H ∧ DR K F x d) ∨ ∃ T a b da db, x = .ref T ∧ H T = none ∧ H' = upd H T (.tup [a, b]) ∧ d = .tup [da, db] ∧ DR K F a da ∧ DR K F b db)
abbrev ItD (K : PySem.W.Frag) (J : It) (xs : List D) (F : Hp) : Prop := Walk J xs.length (fun H => Sub F H) (YD K F xs)
def liftI (K : PySem.W.Frag) (di : DI) : TI := fun σ H R => ∃ F ds ms P, Rel K F H ms ∧ Sl K F σ ds ∧ di ds ms P ∧
  ∀ xs ms' F' H' J, P xs ms' → Rel K F' H' ms' → Stp F H ms F' H' ms' → ItD K J xs F' → R J H'
abbrev PDI (X : Cx) (tg e : Expr) (di : DI) : Prop := PI X tg e (liftI X.K di)
theorem piImp {X : Cx} {tg e : Expr} {t t' : TI} (h : PI X tg e t) (hi : ∀ σ H R, t' σ H R → t σ H R) : PI X tg e t' := ⟨fun pins s σ H R I hq => h.run pins s σ H R I (hi σ H R hq)⟩
theorem itd_list {K : PySem.W.Frag} {F : Hp} {a : Addr} {vs : List V} {xs : List D} (h : SqL K F a vs) (r : DRs K F vs xs) : ItD K (Itl K a) xs F := by
  unfold ItD
  rw [← r.length]
  refine (walk_list (K := K) (a := a) (xs := vs)).mono (fun H s => s.sqL h) fun i H x H' hi s y => ?_
  obtain ⟨d, h1, h2⟩ := r.getV y.2
  exact ⟨d, h1, .inl ⟨y.1, h2⟩⟩
/-- lo, lo + 1, .. -/
def rng (lo : Int) (n : Nat) : List D := (List.range n).map fun i => D.int (lo + (i : Nat))
theorem itd_range {K : PySem.W.Frag} {F : Hp} {lo : Int} {n : Nat} : ItD K (Itr lo n) (rng lo n) F := by
  unfold ItD
  have e : (rng lo n).length = n := by unfold rng; simp
  rw [e]
  refine (walk_range (lo := lo) (n := n)).mono (fun H s => trivial) fun i H x H' hi s y => ?_
  refine ⟨.int (lo + (i : Nat)), ?_, .inl ⟨y.1, by rw [y.2]; exact .int _⟩⟩
  unfold rng
  rw [List.getElem?_map, List.getElem?_range hi]; rfl
def rngC (lo c : Int) (n : Nat) : List D := (List.range n).map fun i => D.int (lo + (i : Nat) * c)
def zipD (xs ys : List D) : List D := List.zipWith (fun x y => D.tup [x, y]) xs ys
theorem itd_zip {K : PySem.W.Frag} {F : Hp} {a b : Addr} {vs ws : List V} {xs ys : List D} (h : SqL K F a vs) (r : DRs K F vs xs) (h2 : SqL K F b ws) (r2 : DRs K F ws ys) : ItD K (Itz K a b) (zipD xs ys) F := by
  unfold ItD
  have e : (zipD xs ys).length = min vs.length ws.length := by unfold zipD; rw [List.length_zipWith, r.length, r2.length]
  rw [e]
  refine (walk_zip (K := K) (a := a) (b := b) (xs := vs) (ys := ws) rfl).mono (fun H s => ⟨s.sqL h, s.sqL h2⟩) fun i H x H' hi s y => ?_
  obtain ⟨T, u, w, e1, e2, e3, e4, e5⟩ := y
  obtain ⟨d, z1, z2⟩ := r.getV e4
  obtain ⟨d', z3, z4⟩ := r2.getV e5
  refine ⟨.tup [d, d'], ?_, .inr ⟨T, u, w, d, d', e1, e2, e3, rfl, z2, z4⟩⟩
  unfold zipD
  rw [List.getElem?_zipWith, z1, z3]
def enumD (xs : List D) : List D := List.zipWith (fun x y => D.tup [x, y]) (rng 0 xs.length) xs
theorem itd_enum {K : PySem.W.Frag} {F : Hp} {a : Addr} {vs : List V} {xs : List D} (h : SqL K F a vs) (r : DRs K F vs xs) : ItD K (Ite K a) (enumD xs) F := by
  unfold ItD
  have e : (enumD xs).length = vs.length := by unfold enumD rng; rw [List.length_zipWith, List.length_map, List.length_range, r.length]; simp
  rw [e]
  refine (walk_enum (K := K) (a := a) (xs := vs)).mono (fun H s => s.sqL h) fun i H x H' hi s y => ?_
  obtain ⟨T, u, w, e1, e2, e3, e4, e5⟩ := y
  obtain ⟨d, z1, z2⟩ := r.getV e5
  have e4' : u = .int (i : Nat) := (Option.some.inj e4).symm
  subst e4'
  refine ⟨.tup [.int (i : Nat), d], ?_, .inr ⟨T, _, w, _, d, e1, e2, e3, rfl, .int _, z2⟩⟩
  unfold enumD rng
  rw [r.length] at hi
  rw [List.getElem?_zipWith, z1, List.getElem?_map, List.getElem?_range hi]
  simp
def strD (z : Str) : List D := z.cps.toList.map fun c => D.str ⟨#[c]⟩
theorem itd_str {K : PySem.W.Frag} {F : Hp} {z : Str} : ItD K (Its z) (strD z) F := by
  unfold ItD
  have e : (strD z).length = z.cps.size := by unfold strD; simp
  rw [e]
  refine (walk_str (z := z)).mono (fun H s => trivial) fun i H x H' hi s y => ?_
  obtain ⟨e1, c, e2, e3⟩ := y
  refine ⟨.str ⟨#[c]⟩, ?_, .inl ⟨e1, by rw [e3]; exact .str _⟩⟩
  unfold strD
  rw [List.getElem?_map, Array.getElem?_toList, e2]; rfl
/-- the items of what is a list here: known, or one that may change -/
def look : MS → Addr → Option (List D)
  | [], _ => none
  | (q, xs) :: r, p => if q = p then some xs else look r p
def asL (d : D) (ms : MS) : Option (List D) := match d with
  | .lst xs => some xs
  | .fro xs => some xs
  | .opq (.ref p) => look ms p
  | _ => none
theorem look_mem : ∀ {ms : MS} {p : Addr} {xs : List D}, look ms p = some xs → (p, xs) ∈ ms
  | [], _, _, h => by cases h
  | (q, ys) :: r, p, xs, h => by
    unfold look at h
    by_cases e : q = p
    · rw [if_pos e] at h; cases h; subst e; exact List.mem_cons_self
    · rw [if_neg e] at h; exact List.mem_cons_of_mem _ (look_mem h)
section
variable {K : PySem.W.Frag} {F H : Hp} {ms : MS}
theorem Rel.look (R : Rel K F H ms) {p : Addr} {xs : List D} (h : look ms p = some xs) : F p = none ∧ ∃ vs, H p = some (.lst vs) ∧ DRs K F vs xs := R.mu (p, xs) (look_mem h)
theorem Rel.asL (R : Rel K F H ms) {v : V} {d : D} {xs : List D} (r : DR K F v d) (h : asL d ms = some xs) : ∃ a vs, v = .ref a ∧ SqL K H a vs ∧ DRs K F vs xs := by
  cases r with
  | lst h1 h2 => cases h; exact ⟨_, _, rfl, SqL.of (R.sub _ _ h1), h2⟩
  | fro h1 h2 => cases h; exact ⟨_, _, rfl, R.sub.sqL h1, h2⟩
  | opq v =>
    cases v with
    | ref p =>
      obtain ⟨_, vs, h1, h2⟩ := R.look h
      exact ⟨p, vs, rfl, SqL.of h1, h2⟩
    | _ => cases h
  | _ => cases h
end
section
variable {X : Cx} {tg e e2 : Expr} {da db : DE} {aa : DA} {p pos tpos : Pos} {elts : List Expr} {kk : Nat}
/-- a list, a tuple, a text that are known -/
def iSeq (de : DE) : DI := fun ds ms P => de ds ms fun d m => match d with
  | .lst xs => P xs m
  | .fro xs => P xs m
  | _ => False
def iTupD (de : DE) : DI := fun ds ms P => de ds ms fun d m => match d with
  | .tup xs => P xs m
  | _ => False
def iStrD (de : DE) : DI := fun ds ms P => de ds ms fun d m => match d with
  | .str z => P (strD z) m
  | _ => False
theorem pdi_list (h : PD X e da) : PDI X tg e (iSeq da) := piImp (pi_list h) fun σ H R ⟨F, ds, ms, P, Rl, S, h1, h2⟩ =>
  ⟨F, ds, ms, _, Rl, S, h1, fun d m v F1 H1 p1 R1 s1 r1 => by
    cases r1 with
    | lst ha hs => exact ⟨_, rfl, ⟨_, SqL.of (R1.sub _ _ ha)⟩, h2 _ m F1 H1 _ p1 R1 s1 (itd_list (SqL.of ha) hs)⟩
    | fro ha hs => exact ⟨_, rfl, ⟨_, R1.sub.sqL ha⟩, h2 _ m F1 H1 _ p1 R1 s1 (itd_list ha hs)⟩
    | _ => exact p1.elim⟩
theorem pdi_str (h : PD X e da) : PDI X tg e (iStrD da) := piImp (pi_str h) fun σ H R ⟨F, ds, ms, P, Rl, S, h1, h2⟩ =>
  ⟨F, ds, ms, _, Rl, S, h1, fun d m v F1 H1 p1 R1 s1 r1 => by
    cases r1 with
    | str z => exact ⟨z, rfl, h2 _ m F1 H1 _ p1 R1 s1 itd_str⟩
    | _ => exact p1.elim⟩
def iRange1 (aa : DA) : DI := fun ds ms P => aa ds ms fun xs m => match xs with
  | [.int j] => (-(2 ^ 62) ≤ j ∧ j < 2 ^ 62) ∧ P (rng 0 j.toNat) m
  | _ => False
def iRange2 (aa : DA) : DI := fun ds ms P => aa ds ms fun xs m => match xs with
  | [.int i, .int j] => (-(2 ^ 62) ≤ i ∧ i < 2 ^ 62 ∧ -(2 ^ 62) ≤ j ∧ j < 2 ^ 62) ∧ P (rng i (j - i).toNat) m
  | _ => False
def iRange3 (aa : DA) : DI := fun ds ms P => aa ds ms fun xs m => match xs with
  | [.int i, .int j, .int c] => ∃ n, RgC i j c n ∧ P (rngC i c n) m
  | _ => False
theorem pdi_range1 (hg : Gl X "range") (hm : X.mg "range" = none) (ha : PDA X [e] aa) (hs : starEach [e] X.env = [(false, eval e X.env)] := by rfl) : PDI X tg (.Call (.Name "range" p) [e] [] pos) (iRange1 aa) :=
  piImp (pi_range1 hg hm ha hs) fun σ H R ⟨F, ds, ms, P, Rl, S, h1, h2⟩ =>
    ⟨F, ds, ms, _, Rl, S, h1, fun xs m vs F1 H1 p1 R1 s1 r1 => by
      match xs, r1, p1 with
      | [.int j], .cons (.int _) .nil, p1 => exact ⟨j, rfl, p1.1.1, p1.1.2, h2 _ m F1 H1 _ p1.2 R1 s1 itd_range⟩⟩
def iZipD (aa : DA) : DI := fun ds ms P => aa ds ms fun xs m => match xs with
  | [.lst a, .lst b] => P (zipD a b) m
  | _ => False
theorem pdi_zip (hg : Gl X "zip") (hm : X.mg "zip" = none) (ha : PDA X [e, e2] aa)
    (hs : starEach [e, e2] X.env = (false, eval e X.env) :: starEach [e2] X.env := by rfl) (hpl : (backTo pos (starEach [e2] X.env)).any (·.1) = false := by rfl) :
    PDI X (.Tuple elts kk tpos) (.Call (.Name "zip" p) [e, e2] [] pos) (iZipD aa) :=
  piImp (pi_zip hg hm ha hs hpl) fun σ H R ⟨F, ds, ms, P, Rl, S, h1, h2⟩ =>
    ⟨F, ds, ms, _, Rl, S, h1, fun xs m vs F1 H1 p1 R1 s1 r1 => by
      match xs, r1, p1 with
      | [.lst a, .lst b], .cons (.lst ha hs) (.cons (.lst hb hs2) .nil), p1 =>
        exact ⟨_, _, _, _, rfl, SqL.of (R1.sub _ _ ha), SqL.of (R1.sub _ _ hb), h2 _ m F1 H1 _ p1 R1 s1 (itd_zip (SqL.of ha) hs (SqL.of hb) hs2)⟩⟩
def iEnumD (aa : DA) : DI := fun ds ms P => aa ds ms fun xs m => match xs with
  | [.lst a] => P (enumD a) m
  | _ => False
theorem pdi_enum (hg : Gl X "enumerate") (hm : X.mg "enumerate" = none) (ha : PDA X [e] aa) (hs : starEach [e] X.env = [(false, eval e X.env)] := by rfl) :
    PDI X (.Tuple elts kk tpos) (.Call (.Name "enumerate" p) [e] [] pos) (iEnumD aa) :=
  piImp (pi_enum hg hm ha hs) fun σ H R ⟨F, ds, ms, P, Rl, S, h1, h2⟩ =>
    ⟨F, ds, ms, _, Rl, S, h1, fun xs m vs F1 H1 p1 R1 s1 r1 => by
      match xs, r1, p1 with
      | [.lst a], .cons (.lst ha hs) .nil, p1 => exact ⟨_, _, rfl, SqL.of (R1.sub _ _ ha), h2 _ m F1 H1 _ p1 R1 s1 (itd_enum (SqL.of ha) hs)⟩⟩
end
def loopD (g : DG) (tb : DTS) (E : EN) : List D → DS → MS → Prop
  | [], ds, ms => E.nx ds ms
  | x :: r, ds, ms => g x ds fun ds1 => tb { E with nx := loopD g tb E r, ct := loopD g tb E r, bk := E.nx } ds1 ms
def dFor (di : DI) (g : DG) (tb : DTS) : DTS := fun E ds ms => di ds ms fun xs m => loopD g tb E xs ds m
section
variable {K : PySem.W.Frag} {di : DI} {dg : DG} {tb : DTS} {g : TG} {vs : List Nat}
theorem drop_get {xs : List D} {i : Nat} {d : D} (h : xs[i]? = some d) : xs.drop i = d :: xs.drop (i + 1) := by
  obtain ⟨hi, e⟩ := List.getElem?_eq_some_iff.mp h
  rw [List.drop_eq_getElem_cons hi, e]
theorem lift_for (hg : TgD K g dg vs) : ∀ D σ H, liftS K (dFor di dg tb) D σ H → tFor (liftI K di) g (liftS K tb) D σ H := fun D σ H ⟨F, ds, ms, E, R, S, h, n, r, k, q⟩ => by
  refine ⟨F, ds, ms, _, R, S, h, fun xs m F0 H0 J p0 R0 s0 wk => ?_⟩
  refine for_it wk (fun i σ1 H1 => ∃ F1 ds1 m1, Rel K F1 H1 m1 ∧ Stp F H ms F1 H1 m1 ∧ Sub F0 F1 ∧ Sl K F1 σ1 ds1 ∧ loopD dg tb E (xs.drop i) ds1 m1)
    ⟨F0, ds, m, R0, s0, Sub.refl F0, S.mono s0.sub, p0⟩ (fun i σ1 H1 _ ⟨F1, ds1, m1, R1, s1, s01, S1, h1⟩ => s01.trans R1.sub) ?_ ?_
  · rintro i x σ1 H1 H2 hi ⟨F1, ds1, m1, R1, s1, s01, S1, h1⟩ ⟨d, hd, hy⟩
    rw [drop_get hd] at h1
    have fin : ∀ {F2 : Hp} {x : V}, Rel K F2 H2 m1 → Stp F H ms F2 H2 m1 → Sub F1 F2 → DR K F2 x d →
        g x σ1 H2 fun σ2 H3 => liftS K tb { D with nx := fun σ1 H1 => ∃ F1 ds1 m1, Rel K F1 H1 m1 ∧ Stp F H ms F1 H1 m1 ∧ Sub F0 F1 ∧ Sl K F1 σ1 ds1 ∧ loopD dg tb E (xs.drop (i + 1)) ds1 m1, ct := fun σ1 H1 => ∃ F1 ds1 m1, Rel K F1 H1 m1 ∧ Stp F H ms F1 H1 m1 ∧ Sub F0 F1 ∧ Sl K F1 σ1 ds1 ∧ loopD dg tb E (xs.drop (i + 1)) ds1 m1, bk := D.nx } σ2 H3 := by
      intro F2 x R2 s2 s12 rx
      refine hg.snd x σ1 F2 H2 _ d ds1 _ R2.sub (S1.mono s12) rx h1 fun ds2 σ2 h2 S2 => ?_
      refine ⟨F2, ds2, m1, _, R2, S2, h2, ?_, ?_, ?_, ?_⟩
      · exact fun ds3 m3 σ3 F3 H3 h3 R3 s3 S3 => ⟨F3, ds3, m3, R3, s2.trans s3, (s01.trans s12).trans s3.sub, S3, h3⟩
      · exact fun d3 m3 v3 F3 H3 h3 R3 s3 r3 => r d3 m3 v3 F3 H3 h3 R3 (s2.trans s3) r3
      · exact fun ds3 m3 σ3 F3 H3 h3 R3 s3 S3 => n ds3 m3 σ3 F3 H3 h3 R3 (s2.trans s3) S3
      · exact fun ds3 m3 σ3 F3 H3 h3 R3 s3 S3 => ⟨F3, ds3, m3, R3, s2.trans s3, (s01.trans s12).trans s3.sub, S3, h3⟩
    rcases hy with ⟨rfl, rx⟩ | ⟨T, a, b, da, db, rfl, hT, rfl, rfl, ra, rb⟩
    · exact fin R1 s1 (Sub.refl F1) (rx.mono s01)
    · exact fin (R1.new hT) (s1.trans (Stp.new R1 hT)) (Sub.new (R1.sub.none hT)) (R1.newTup hT (.cons (ra.mono s01) (.cons (rb.mono s01) .nil)))
  · rintro σ1 H1 ⟨F1, ds1, m1, R1, s1, s01, S1, h1⟩
    rw [List.drop_length] at h1
    exact n ds1 m1 σ1 F1 H1 h1 R1 s1 S1
theorem pds_for {X : Cx} {tg iter : Expr} {body : List Stmt} {pos : Pos} (hc : X.calm = true) (hi : PDI X tg iter di) (hg : PG X tg g) (hd : TgD X.K g dg vs) (hb : PDSs X body tb) (hp : PassesOwn (model X.prog X.w) X.A X.env X.xe := by exact PassesOwn.never)
    (hs : ∀ x, foldedSetIterable iter X.env x = pure x := by intro _; rfl) : PDS X (.For tg iter body [] pos) (dFor di dg tb) := psImp (ps_for hp hc hi hg hb hs) (lift_for hd)
end
def whileD (c : DT) (tb : DTS) (E : EN) : Nat → DS → MS → Prop
  | 0, _, _ => False
  | n + 1, ds, ms => c ds ms fun b m => if b = true then tb { E with nx := whileD c tb E n, ct := whileD c tb E n, bk := E.nx } ds m else E.nx ds m
def dWhile (c : DT) (tb : DTS) : DTS := fun E ds ms => ∃ n, whileD c tb E n ds ms
def wipeD (ds : DS) : List Nat → DS
  | [] => ds
  | v :: vs => (wipeD ds vs).set v none
theorem Sl.wipe1 {K : PySem.W.Frag} {F : Hp} : ∀ {σ : L2.St} {ds : DS} (i : Nat), Sl K F σ ds → Sl K F (σ.set i none) (ds.set i none)
  | _, _, i, .nil => by cases i <;> exact .nil
  | _, _, 0, .sm _ r => .nn r
  | _, _, 0, .nn r => .nn r
  | _, _, i + 1, .sm q r => .sm q (Sl.wipe1 i r)
  | _, _, i + 1, .nn r => .nn (Sl.wipe1 i r)
theorem Sl.wipe {K : PySem.W.Frag} {F : Hp} {σ : L2.St} {ds : DS} (S : Sl K F σ ds) : ∀ vs : List Nat, Sl K F (L2.wipe σ vs) (wipeD ds vs)
  | [] => S
  | v :: vs => Sl.wipe1 v (Sl.wipe S vs)
theorem wipe_wipe {σ : L2.St} {ws : List Nat} : ∀ {us : List Nat}, (∀ u ∈ us, u ∈ ws) → L2.wipe (L2.wipe σ us) ws = L2.wipe σ ws
  | [], _ => rfl
  | u :: us, h => by
    show L2.wipe ((L2.wipe σ us).set u none) ws = L2.wipe σ ws
    rw [wipe_set (h u List.mem_cons_self), wipe_wipe fun v hv => h v (List.mem_cons_of_mem _ hv)]
theorem Stp.kp {F H F1 H1 : Hp} {ms m1 : MS} (a : Stp F H ms F1 H1 m1) {c : Addr} {o : HO} (h1 : H c = some o) (h2 : F c = none) (h3 : ∀ p ∈ ms, p.1 ≠ c) : H1 c = some o ∧ F1 c = none ∧ ∀ p ∈ m1, p.1 ≠ c := by
  refine ⟨a.keep c o h1 h2 h3, ?_, fun p hp e => ?_⟩
  · cases e : F1 c with
    | none => rfl
    | some u =>
      rcases a.newF c u e with z | z | ⟨p, hp, z⟩
      · rw [h2] at z; cases z
      · rw [h1] at z; cases z
      · exact absurd z (h3 p hp)
  · rcases a.newM p hp with ⟨q, hq, z⟩ | z | ⟨u, z⟩
    · exact h3 q hq (z.trans e)
    · rw [e, h1] at z; cases z
    · rw [e, h2] at z; cases z
def compD (g : DG) (tt : DT) (te : DE) (ds : DS) : List D → List D → MS → (List D → MS → Prop) → Prop
  | [], acc, ms, P => P acc ms
  | x :: r, acc, ms, P => g x ds fun ds2 => tt ds2 ms fun b m3 => if b = true then te ds2 m3 fun y m4 => acc.length < sizeLine ∧ compD g tt te ds r (acc ++ [y]) m4 P else compD g tt te ds r acc m3 P
def dLc (di : DI) (g : DG) (tt : DT) (te : DE) (vs : List Nat) : DE := fun ds ms P => di ds ms fun xs m => compD g tt te (wipeD ds vs) xs [] m fun ys m' => P (.lst ys) m'
/-- without a test -/
def dYes : DT := fun _ ms P => P true ms
section
variable {K : PySem.W.Frag} {di : DI} {dg : DG} {tt : DT} {te : DE} {g : TG} {vs : List Nat}
theorem lift_lc (hg : TgD K g dg vs) (hm : MonG g) : ∀ σ H Q, lift K (dLc di dg tt te vs) σ H Q → tLc (liftI K di) g (liftT K tt) (lift K te) vs σ H Q := fun σ H Q ⟨F, ds, ms, P, R, S, h, q⟩ => by
  refine ⟨F, ds, ms, _, R, S, h, fun xs m F0 H0 J p0 R0 s0 wk L hL => ?_⟩
  have nL : F0 L = none := R0.sub.none hL
  have nM : ∀ p ∈ m, p.1 ≠ L := fun p hp => by
    obtain ⟨_, ws, h2, _⟩ := R0.mu p hp
    exact ne_of_none h2 hL
  refine lc_it wk (fun i H1 => ∃ F1 m1 acc av, Rel K F1 H1 m1 ∧ Stp F0 H0 m F1 H1 m1 ∧ H1 L = some (.lst av) ∧ F1 L = none ∧ (∀ p ∈ m1, p.1 ≠ L) ∧ DRs K F1 av acc ∧ compD dg tt te (wipeD ds vs) (xs.drop i) acc m1 fun ys m' => P (.lst ys) m')
    ⟨F0, m, [], [], R0.lay hL, ⟨Sub.refl F0, fun a u h1 _ _ => by rw [upd_ne (ne_of_none h1 hL)]; exact h1, fun _ _ h => .inl h, fun q hq => .inl ⟨q, hq, rfl⟩⟩, upd_same, nL, nM, .nil, p0⟩
    (fun i H1 _ ⟨F1, m1, acc, av, R1, s1, _⟩ => s1.sub.trans R1.sub) ?_ ?_
  · rintro i x H1 H2 hi ⟨F1, m1, acc, av, R1, s1, hD, hF, hM, ra, h1⟩ ⟨d, hd, hy⟩
    rw [drop_get hd] at h1
    have fin : ∀ {F2 : Hp} {x : V}, Rel K F2 H2 m1 → Stp F0 H0 m F2 H2 m1 → Sub F1 F2 → DR K F2 x d → H2 L = some (.lst av) → F2 L = none →
        g x (L2.wipe σ vs) H2 fun σ2 H3 => L2.wipe σ2 vs = L2.wipe σ vs ∧ liftT K tt σ2 H3 fun b H4 => if b = true then lift K te σ2 H4 fun y H5 => ∃ acc, H5 L = some (.lst acc) ∧ acc.length < sizeLine ∧
          (∃ F1 m1 acc' av, Rel K F1 (upd H5 L (.lst (acc ++ [y]))) m1 ∧ Stp F0 H0 m F1 (upd H5 L (.lst (acc ++ [y]))) m1 ∧ (upd H5 L (.lst (acc ++ [y]))) L = some (.lst av) ∧ F1 L = none ∧ (∀ p ∈ m1, p.1 ≠ L) ∧ DRs K F1 av acc' ∧ compD dg tt te (wipeD ds vs) (xs.drop (i + 1)) acc' m1 fun ys m' => P (.lst ys) m')
          else ∃ F1 m1 acc av, Rel K F1 H4 m1 ∧ Stp F0 H0 m F1 H4 m1 ∧ H4 L = some (.lst av) ∧ F1 L = none ∧ (∀ p ∈ m1, p.1 ≠ L) ∧ DRs K F1 av acc ∧ compD dg tt te (wipeD ds vs) (xs.drop (i + 1)) acc m1 fun ys m' => P (.lst ys) m' := by
      intro F2 x R2 s2 s12 rx hD2 hF2
      have hw := hg.wip x (L2.wipe σ vs) H2 _ (hg.snd x (L2.wipe σ vs) F2 H2 (fun σ2 H3 => H3 = H2 ∧ ∃ ds2, Sl K F2 σ2 ds2 ∧ tt ds2 m1 fun b m3 => if b = true then te ds2 m3 fun y m4 => acc.length < sizeLine ∧ compD dg tt te (wipeD ds vs) (xs.drop (i + 1)) (acc ++ [y]) m4 fun ys m' => P (.lst ys) m' else compD dg tt te (wipeD ds vs) (xs.drop (i + 1)) acc m3 fun ys m' => P (.lst ys) m') d (wipeD ds vs) _ R2.sub ((S.wipe vs).mono (s0.sub.trans s2.sub)) rx h1 fun ds2 σ2 h2 S2 => ⟨rfl, ds2, S2, h2⟩)
      refine hm _ _ _ _ _ ?_ hw
      rintro σ2 H3 ⟨e1, rfl, ds2, S2, h2⟩
      refine ⟨e1.trans (wipe_wipe fun u hu => hu), F2, ds2, m1, _, R2, S2, h2, fun b m4 F4 H4 p4 R4 s4 => ?_⟩
      obtain ⟨hD4, hF4, hM4⟩ := s4.kp hD2 hF2 hM
      cases b with
      | false =>
        rw [if_neg Bool.false_ne_true] at p4 ⊢
        exact ⟨F4, m4, acc, av, R4, s2.trans s4, hD4, hF4, hM4, (ra.mono s12).mono s4.sub, p4⟩
      | true =>
        rw [if_pos rfl] at p4 ⊢
        refine ⟨F4, ds2, m4, _, R4, S2.mono s4.sub, p4, fun y m5 v5 F5 H5 p5 R5 s5 r5 => ?_⟩
        obtain ⟨hD5, hF5, hM5⟩ := s5.kp hD4 hF4 hM4
        have ra5 := ((ra.mono s12).mono s4.sub).mono s5.sub
        have s05 := (s2.trans s4).trans s5
        refine ⟨av, hD5, by rw [ra.length]; exact p5.1, F5, m5, acc ++ [y], av ++ [v5], ?_, ?_, upd_same, hF5, hM5, ra5.append (.cons r5 .nil), p5.2⟩
        · refine ⟨fun b u e => ?_, fun p hp => ?_, R5.nd, R5.one⟩
          · rw [upd_ne (fun z => by rw [z, hF5] at e; cases e)]; exact R5.sub b u e
          · obtain ⟨z1, ws, z2, z3⟩ := R5.mu p hp
            exact ⟨z1, ws, by rw [upd_ne (hM5 p hp)]; exact z2, z3⟩
        · exact ⟨s05.sub, fun a u z1 z2 z3 => by rw [upd_ne (ne_of_none z1 hL)]; exact s05.keep a u z1 z2 z3, s05.newF, s05.newM⟩
    rcases hy with ⟨rfl, rx⟩ | ⟨T, a, b, da, db, rfl, hT, rfl, rfl, ra', rb'⟩
    · exact fin R1 s1 (Sub.refl F1) (rx.mono s1.sub) hD hF
    · have hne : L ≠ T := ne_of_none hD hT
      exact fin (R1.new hT) (s1.trans (Stp.new R1 hT)) (Sub.new (R1.sub.none hT)) (R1.newTup hT (.cons (ra'.mono s1.sub) (.cons (rb'.mono s1.sub) .nil))) (by rw [upd_ne hne]; exact hD) (by rw [upd_ne hne]; exact hF)
  · rintro H1 ⟨F1, m1, acc, av, R1, s1, hD, hF, hM, ra, h1⟩
    rw [List.drop_length] at h1
    have sF : Sub F1 (upd F1 L (.lst av)) := Sub.new hF
    refine q _ m1 _ (upd F1 L (.lst av)) H1 h1 ?_ (s0.trans ?_) (.lst upd_same (ra.mono sF))
    · refine ⟨fun b u e => ?_, fun p hp => ?_, R1.nd, R1.one.mono sF⟩
      · by_cases hb : b = L
        · subst hb; rw [upd_same] at e; rw [hD]; exact e
        · rw [upd_ne hb] at e; exact R1.sub b u e
      · obtain ⟨z1, ws, z2, z3⟩ := R1.mu p hp
        exact ⟨by rw [upd_ne (hM p hp)]; exact z1, ws, z2, z3.mono sF⟩
    · refine ⟨s1.sub.trans sF, s1.keep, fun a u e => ?_, s1.newM⟩
      by_cases hb : a = L
      · subst hb; exact .inr (.inl hL)
      · rw [upd_ne hb] at e; exact s1.newF a u e
end
end DL
namespace DL
open PySem PySem.Spec PyProof.Rows L2
abbrev PDTs (X : Cx) (es : List Expr) (t : DT) : Prop := PTs X es (liftT X.K t)
theorem pdts_nil {X : Cx} : PDTs X [] dYes := ⟨fun pins s σ H Q I ⟨F, ds, ms, P, R, S, h1, h2⟩ => pts_nil.run pins s σ H Q I (h2 true ms F H h1 R Stp.refl)⟩
section
variable {X : Cx} {elt tg iter : Expr} {ifs : List Expr} {scope : Scope} {own : List (Str × Nat)} {pos spos py : Pos} {di : DI} {g : TG} {dg : DG} {tt : DT} {te : DE} {i : Nat} {y : Str}
theorem pd_lc (hc : X.calm = true) (hN : X.N.Nodup) (hi : PDI X tg iter di) (ok : BlkOk X.N X.env.scope scope own)
    (hg : ∀ (s : Shared) (H : Hp) (C : Addr) (cl : List (Str × Addr)) (fp : List Addr), PG (X.blk s H scope (compEnvC scope cl C X.env) fp) tg g)
    (hd : TgD X.K g dg (own.map (·.2))) (hm : MonG g)
    (ht : ∀ (s : Shared) (H : Hp) (C : Addr) (cl : List (Str × Addr)) (fp : List Addr), PDTs (X.blk s H scope (compEnvC scope cl C X.env) fp) ifs tt)
    (he : ∀ (s : Shared) (H : Hp) (C : Addr) (cl : List (Str × Addr)) (fp : List Addr), PD (X.blk s H scope (compEnvC scope cl C X.env) fp) elt te)
    (hs : ∀ x, foldedSetIterable iter X.env x = pure x := by intro _; rfl) :
    PD X (.ListComp elt [⟨tg, iter, ifs, 0⟩] scope pos) (dLc di dg tt te (own.map (·.2))) :=
  peImp (pe_lc hc hN hi ok hg ht he hs) (lift_lc hd hm)
theorem pds_setLc (hc : X.calm = true) (hN : X.N.Nodup) (hy : X.N[i]? = some y) (hyl : X.env.scope.names.lookup y = some .local)
    (hsw : swapsWith (.ListComp elt [⟨tg, iter, ifs, 0⟩] scope pos) (some (.Name y py)) spos.line X.env = pure true) (hi : PDI X tg iter di) (ok : BlkOk X.N X.env.scope scope own)
    (hg : ∀ (s : Shared) (H : Hp) (C : Addr) (cl : List (Str × Addr)) (fp : List Addr), PG (X.blk s H scope (compEnvC scope cl C X.env) fp) tg g)
    (hd : TgD X.K g dg (own.map (·.2))) (hm : MonG g)
    (ht : ∀ (s : Shared) (H : Hp) (C : Addr) (cl : List (Str × Addr)) (fp : List Addr), PDTs (X.blk s H scope (compEnvC scope cl C X.env) fp) ifs tt)
    (he : ∀ (s : Shared) (H : Hp) (C : Addr) (cl : List (Str × Addr)) (fp : List Addr), PD (X.blk s H scope (compEnvC scope cl C X.env) fp) elt te)
    (hs : ∀ x, foldedSetIterable iter X.env x = pure x := by intro _; rfl) :
    PDS X (.Assign [.Name y py] (.ListComp elt [⟨tg, iter, ifs, 0⟩] scope pos) spos) (dAsg (dLc di dg tt te (own.map (·.2))) (sName i)) :=
  psImp (ps_setLc hc hN hy hyl hsw hi ok hg ht he hs) fun D σ H h => by
    obtain ⟨F, ds, ms, P, R, S, z1, z2⟩ := h
    exact lift_lc hd hm σ H _ ⟨F, ds, ms, _, R, S, z1, fun d m v F1 H1 p1 R1 s1 r1 => z2.1 _ m _ F1 H1 p1 R1 s1 ((S.mono s1.sub).set r1 i)⟩
end
def fAdd : OF := fun x y ms P => match x, y with
  | .int i, .int j => P (.int (i + j)) ms
  | .str i, .str j => i.length + j.length ≤ sizeLine ∧ P (.str (i ++ j)) ms
  | .lst a, .lst b => a.length + b.length ≤ sizeLine ∧ P (.lst (a ++ b)) ms
  | .opq (.ref p), .lst b => match look ms p with
    | some a => a.length + b.length ≤ sizeLine ∧ P (.lst (a ++ b)) ms
    | none => False
  | .tup a, .tup b => a.length + b.length ≤ sizeLine ∧ P (.tup (a ++ b)) ms
  | _, _ => False
def rAddD (K : PySem.W.Frag) : R2 := fun x y H Q => (∃ i j, x = .int i ∧ y = .int j ∧ Q (.int (i + j)) H) ∨ (∃ i j, x = .str i ∧ y = .str j ∧ i.length + j.length ≤ sizeLine ∧ Q (.str (i ++ j)) H) ∨ rCat x y H Q ∨ rCatA K x y H Q
theorem op_addD {X : Cx} : OpR X (binaryOp .Add) (rAddD X.K) := op_add.or (op_add_str.or (op_cat.or op_catA))
theorem DRs.nil_iff {K : PySem.W.Frag} {F : Hp} {vs : List V} {xs : List D} (r : DRs K F vs xs) : vs = [] ↔ xs = [] := by cases r <;> simp
theorem opd_add {K : PySem.W.Frag} : OpD K (rAddD K) fAdd := by
  intro F H ms x y dx dy P Q R rx ry h q
  have cat : ∀ {a b : Addr} {vs ws : List V} {xs ys : List D}, H a = some (.lst vs) → H b = some (.lst ws) → DRs K F vs xs → DRs K F ws ys → xs.length + ys.length ≤ sizeLine → P (.lst (xs ++ ys)) ms → rCat (.ref a) (.ref b) H Q := by
    intro a b vs ws xs ys h1 h2 r1 r2 hz hp
    refine ⟨a, b, vs, ws, rfl, rfl, h1, h2, by rw [r1.length, r2.length]; exact hz, fun p hp2 => ?_⟩
    exact q _ ms _ _ _ hp (R.new hp2) (Stp.new R hp2) (R.newLst hp2 (r1.append r2))
  cases rx with
  | int i => cases ry with
    | int j => exact .inl ⟨i, j, rfl, rfl, q _ ms _ F H h R Stp.refl (.int _)⟩
    | _ => exact h.elim
  | str i => cases ry with
    | str j => exact .inr (.inl ⟨i, j, rfl, rfl, h.1, q _ ms _ F H h.2 R Stp.refl (.str _)⟩)
    | _ => exact h.elim
  | lst h1 r1 => cases ry with
    | lst h2 r2 => exact .inr (.inr (.inl (cat (R.sub _ _ h1) (R.sub _ _ h2) r1 r2 h.1 h.2)))
    | _ => exact h.elim
  | tup h1 r1 => cases ry with
    | tup h2 r2 =>
      obtain ⟨z3, z4⟩ := h
      refine .inr (.inr (.inr ⟨_, _, _, _, rfl, rfl, R.sub.sqT h1, R.sub.sqT h2, by rw [r1.length, r2.length]; exact z3, fun e => ?_, fun _ e => ?_, fun _ _ p hp2 => ?_⟩))
      · cases r1.nil_iff.mp e
        exact q _ ms _ F H z4 R Stp.refl (.tup h2 r2)
      · cases r2.nil_iff.mp e
        rw [List.append_nil] at z4
        exact q _ ms _ F H z4 R Stp.refl (.tup h1 r1)
      · exact q _ ms _ _ _ z4 (R.new hp2) (Stp.new R hp2) (R.newTup hp2 (r1.append r2))
    | _ => exact h.elim
  | opq _ => cases x with
    | ref p => cases ry with
      | lst h2 r2 =>
        unfold fAdd at h
        cases e : look ms p with
        | none => simp only [e] at h
        | some a =>
          simp only [e] at h
          obtain ⟨_, vs, h1, r1⟩ := R.look e
          exact .inr (.inr (.inl (cat h1 (R.sub _ _ h2) r1 r2 h.1 h.2)))
      | _ => exact h.elim
    | _ => exact h.elim
  | _ => exact h.elim
def fSub : OF := fun x y ms P => fI (fun _ _ => True) (fun i j => .int (i - j)) x y ms P
theorem opd_sub {K : PySem.W.Frag} : OpD K (rI0 fun i j => .int (i - j)) fSub := opd_I0 fun _ _ _ => .int _
/-- * of ints, together below a million bits, or one of them below 2 ^ 64 -/
def CMulD (i j : Int) : Prop := CMulW i j ∨ CMul i j
theorem op_mulD {X : Cx} : OpR X (binaryOp .Mult) (rI CMulD fun i j => .int (i * j)) := opI fun _ _ _ _ _ _ _ hc q => mul_int q (hc.elim (·.ok) (·.ok))
def fMul : OF := fun x y ms P => match x, y with
  | .int i, .int j => CMulD i j ∧ P (.int (i * j)) ms
  | .lst a, .int k => (-(2 ^ 63) ≤ k ∧ k < 2 ^ 63 ∧ a.length * k.toNat ≤ sizeLine) ∧ P (.lst (List.replicate k.toNat a).flatten) ms
  | _, _ => False
def rMulD : R2 := fun x y H Q => rI CMulD (fun i j => .int (i * j)) x y H Q ∨ rRep x y H Q
theorem op_mulA {X : Cx} : OpR X (binaryOp .Mult) rMulD := op_mulD.or op_rep
theorem DRs.rep {K : PySem.W.Frag} {F : Hp} {vs : List V} {xs : List D} (r : DRs K F vs xs) : ∀ n : Nat, DRs K F (List.replicate n vs).flatten (List.replicate n xs).flatten
  | 0 => .nil
  | n + 1 => by rw [List.replicate_succ, List.replicate_succ, List.flatten_cons, List.flatten_cons]; exact r.append (DRs.rep r n)
theorem opd_mul {K : PySem.W.Frag} : OpD K rMulD fMul := by
  intro F H ms x y dx dy P Q R rx ry h q
  cases rx with
  | int i => cases ry with
    | int j => exact .inl ⟨i, j, rfl, rfl, h.1, q _ ms _ F H h.2 R Stp.refl (.int _)⟩
    | _ => exact h.elim
  | lst h1 r1 => cases ry with
    | int k =>
      obtain ⟨⟨z1, z2, z3⟩, z4⟩ := h
      refine .inr ⟨_, k, _, rfl, rfl, R.sub _ _ h1, z1, z2, by rw [r1.length]; exact z3, fun p hp => ?_⟩
      exact q _ ms _ _ _ z4 (R.new hp) (Stp.new R hp) (R.newLst hp (r1.rep _))
    | _ => exact h.elim
  | _ => exact h.elim
/-- // by a number that is not nought, below 2 ^ 9000 -/
def CDivA (_ j : Int) : Prop := j ≠ 0 ∧ j.natAbs.log2 < 9000
theorem op_fdivA {X : Cx} : OpR X (binaryOp .FloorDiv) (rI CDivA fun i j => .int (i.fdiv j)) := opI fun _ _ _ _ _ _ _ hc q => floordiv_int hc.1 q (.inl (PyProof.noPylong_of_log2 hc.2))
def fDiv : OF := fun x y ms P => fI CDivA (fun i j => .int (i.fdiv j)) x y ms P
theorem opd_div {K : PySem.W.Frag} : OpD K (rI CDivA fun i j => .int (i.fdiv j)) fDiv := opd_I (fun _ _ h => h) fun _ _ _ => .int _
def fMod : OF := fun x y ms P => fI (fun _ j => j ≠ 0) (fun i j => .int (i.fmod j)) x y ms P
theorem opd_mod {K : PySem.W.Frag} : OpD K (rI (fun _ j => j ≠ 0) fun i j => .int (i.fmod j)) fMod := opd_I (fun _ _ h => h) fun _ _ _ => .int _
def fPow : OF := fun x y ms P => fI CPow (fun i j => .int (i ^ j.toNat)) x y ms P
theorem opd_pow {K : PySem.W.Frag} : OpD K (rI CPow fun i j => .int (i ^ j.toNat)) fPow := opd_I (fun _ _ h => h) fun _ _ _ => .int _
def fLt : OF := fun x y ms P => fI (fun _ _ => True) (fun i j => .bl (decide (i < j))) x y ms P
def fLe : OF := fun x y ms P => fI (fun _ _ => True) (fun i j => .bl (decide (i ≤ j))) x y ms P
def fGt : OF := fun x y ms P => fI (fun _ _ => True) (fun i j => .bl (decide (j < i))) x y ms P
def fGe : OF := fun x y ms P => fI (fun _ _ => True) (fun i j => .bl (decide (j ≤ i))) x y ms P
theorem opd_lt {K : PySem.W.Frag} : OpD K (rI0 fun i j => .bl (decide (i < j))) fLt := opd_I0 fun _ _ _ => .bl _
theorem opd_le {K : PySem.W.Frag} : OpD K (rI0 fun i j => .bl (decide (i ≤ j))) fLe := opd_I0 fun _ _ _ => .bl _
theorem opd_gt {K : PySem.W.Frag} : OpD K (rI0 fun i j => .bl (decide (j < i))) fGt := opd_I0 fun _ _ _ => .bl _
mutual
def toPy : D → Option PyData
  | .non => some .none
  | .bl b => some (.bool b)
  | .int i => some (.int i)
  | .str x => some (.str x)
  | .lst xs => (toPys xs).map .list
  | .tup xs => (toPys xs).map .tuple
  | .fro xs => (toPys xs).map .list
  | .edic => some (.dict [])
  | .dct _ => none
  | .opq _ => none
  | .exc _ _ _ => none
def toPys : List D → Option (List PyData)
  | [] => some []
  | x :: r => match toPy x, toPys r with
    | some a, some b => some (a :: b)
    | _, _ => none
end
section
variable {X : Cx} {pins : List (Addr × Obj)} {σ : L2.St} {H F : Hp} {s : Shared}
/-- where lists and dicts of ours lie -/
def Our (K : PySem.W.Frag) (F : Hp) (b : Addr) : Prop := (∃ xs, SqL K F b xs) ∨ F b = some (.dK [])
theorem Our.not1 {K : PySem.W.Frag} {F : Hp} {b : Addr} (h : Our K F b) (o : OneR K F) : b ≠ sysModules := by
  rintro rfl
  obtain ⟨o1, o, φ, o2⟩ := o
  rcases h with ⟨xs, (h | ⟨ob, h⟩) | ⟨ob, its, n, h, _⟩⟩ | h
  · rw [o2] at h; cases h
  · rw [o2] at h; cases h
  · rw [o1] at h; cases h
  · rw [o2] at h; cases h
mutual
theorem DR.readsA (I : Inv X pins σ H s) (sb : Sub F H) : ∀ (d : D) (p : PyData) (v : V) (u : Value), DR X.K F v d → toPy d = some p → RelV v u → ∃ as, Reads s.heap u p as ∧ ∀ b ∈ as, Our X.K F b
  | .non, _, _, _, .non, h, r => by cases h; cases r; exact ⟨_, Reads.none, fun b hb => by cases hb⟩
  | .bl b, _, _, _, .bl _, h, r => by cases h; cases r; exact ⟨_, Reads.bool b, fun b hb => by cases hb⟩
  | .int i, _, _, _, .int _, h, r => by cases h; obtain ⟨t, rfl⟩ := r; exact ⟨_, Reads.int i t, fun b hb => by cases hb⟩
  | .str x, _, _, _, .str _, h, r => by cases h; obtain ⟨t, rfl⟩ := r; exact ⟨_, Reads.str x t, fun b hb => by cases hb⟩
  | .lst xs, p, _, _, .lst ha hs, h, r => by
    unfold toPy at h
    obtain ⟨ps, e, rfl⟩ := Option.map_eq_some_iff.mp h
    cases r
    obtain ⟨its, rv, ⟨o, n, ho, hc, _, hd⟩, _⟩ := I.list (SqL.of (sb _ _ ha))
    obtain ⟨as, hr, ou⟩ := DRs.readsA I sb xs ps _ its hs e rv
    refine ⟨_, Reads.list ho hc hd hr, fun b hb => ?_⟩
    rcases List.mem_cons.mp hb with rfl | hb
    · exact .inl ⟨_, SqL.of ha⟩
    · exact ou b hb
  | .fro xs, p, _, _, .fro ha hs, h, r => by
    unfold toPy at h
    obtain ⟨ps, e, rfl⟩ := Option.map_eq_some_iff.mp h
    cases r
    obtain ⟨its, rv, ⟨o, n, ho, hc, _, hd⟩, _⟩ := I.list (sb.sqL ha)
    obtain ⟨as, hr, ou⟩ := DRs.readsA I sb xs ps _ its hs e rv
    refine ⟨_, Reads.list ho hc hd hr, fun b hb => ?_⟩
    rcases List.mem_cons.mp hb with rfl | hb
    · exact .inl ⟨_, ha⟩
    · exact ou b hb
  | .tup xs, p, _, _, .tup ha hs, h, r => by
    unfold toPy at h
    obtain ⟨ps, e, rfl⟩ := Option.map_eq_some_iff.mp h
    cases r
    obtain ⟨its, rv, ⟨o, ho, hc, n, hd⟩, _⟩ := I.tuple (sb.sqT ha)
    obtain ⟨as, hr, ou⟩ := DRs.readsA I sb xs ps _ its hs e rv
    exact ⟨_, Reads.tuple ho hc hd hr, ou⟩
  | .edic, p, _, _, .edic ha, h, r => by
    cases h
    cases r
    obtain ⟨_, _, vs, kv, o, es, ep, h1, h2, h3, h4, h5, _⟩ := (show ObjOk X.prog X.w H s.heap _ (.dK []) from I.hok _ _ (sb _ _ ha))
    cases kv
    have e0 : es.toList = [] := by
      generalize es.toList = l at h5
      cases h5
      rfl
    refine ⟨_, Reads.dict (kvs := []) h1 h2.1 h3 (by rw [e0]; exact .nil) (by rw [e0]; exact .nil), fun b hb => ?_⟩
    simp only [List.cons_append, List.append_nil, List.mem_cons, List.not_mem_nil, or_false] at hb
    subst hb
    exact .inr ha
  | .opq _, _, _, _, _, h, _ => by cases h
  | .dct _, _, _, _, _, h, _ => by cases h
  | .exc _ _ _, _, _, _, _, h, _ => by cases h
theorem DRs.readsA (I : Inv X pins σ H s) (sb : Sub F H) : ∀ (ds : List D) (ps : List PyData) (vs : List V) (us : List Value), DRs X.K F vs ds → toPys ds = some ps → Vals vs us → ∃ as, ReadsAll s.heap us ps as ∧ ∀ b ∈ as, Our X.K F b
  | [], _, _, _, .nil, h, r => by cases h; cases r; exact ⟨_, ReadsAll.nil, fun b hb => by cases hb⟩
  | d :: ds, ps, _, _, .cons h1 h2, h, r => by
    unfold toPys at h
    cases e1 : toPy d with
    | none => simp only [e1] at h; cases h
    | some a =>
      cases e2 : toPys ds with
      | none => simp only [e1, e2] at h; cases h
      | some b =>
        simp only [e1, e2] at h
        cases h
        cases r with
        | cons r1 r2 =>
          obtain ⟨as, q1, o1⟩ := DR.readsA I sb d a _ _ h1 e1 r1
          obtain ⟨bs, q2, o2⟩ := DRs.readsA I sb ds b _ _ h2 e2 r2
          refine ⟨_, ReadsAll.cons q1 q2, fun b hb => ?_⟩
          rcases List.mem_append.mp hb with hb | hb
          · exact o1 b hb
          · exact o2 b hb
end
theorem DR.reads (I : Inv X pins σ H s) (sb : Sub F H) (d : D) (p : PyData) (v : V) (u : Value) (r : DR X.K F v d) (e : toPy d = some p) (ru : RelV v u) : ∃ as, Reads s.heap u p as := (DR.readsA I sb d p v u r e ru).imp fun _ h => h.1
end
end DL
namespace DL
open PySem PySem.Spec PyProof.Rows L2
def ShD (d : D) : Prop := ∃ p, toPy d = some p ∧ SeqAt.shaped p = true
def eqD (x y : D) : Bool := match toPy x, toPy y with
  | some p, some q => PyData.eqv p q
  | _, _ => false
def fEq : OF := fun x y ms P => match x, y with
  | .int i, .int j => P (.bl (i == j)) ms
  | .str i, .str j => P (.bl (i == j)) ms
  | .lst a, .lst [] => P (.bl a.isEmpty) ms
  | _, _ => ShD x ∧ ShD y ∧ P (.bl (eqD x y)) ms
def fNe : OF := fun x y ms P => match x, y with
  | .int i, .int j => P (.bl (!(i == j))) ms
  | .str i, .str j => P (.bl (!(i == j))) ms
  | .lst a, .lst [] => P (.bl (!a.isEmpty)) ms
  | _, _ => ShD x ∧ ShD y ∧ P (.bl (!eqD x y)) ms
def rEqF (K : PySem.W.Frag) (neg : Bool) : R2 := fun x y H Q => ∃ F dx dy, Sub F H ∧ DR K F x dx ∧ DR K F y dy ∧ ShD dx ∧ ShD dy ∧ Q (.bl (if neg then !eqD dx dy else eqD dx dy)) H
theorem op_eqF' {X : Cx} (hu : X.A.units + 64 < cLine) : OpR X (compareOp .Eq) (rEqF X.K false) := by
  intro pins s σ H x y v u Q I rx ry h
  obtain ⟨F, dx, dy, sb, hx, hy, ⟨p, e1, z1⟩, ⟨q, e2, z2⟩, h⟩ := h
  obtain ⟨as, r1⟩ := DR.reads I sb dx p x v hx e1 rx
  obtain ⟨bs, r2⟩ := DR.reads I sb dy q y u hy e2 ry
  have e : eqD dx dy = PyData.eqv p q := by unfold eqD; rw [e1, e2]
  exact SeqAt.compareEq_shaped r1 r2 z1 z2 hu ⟨.bl _, H, I, rfl, by rw [← e]; exact h⟩
theorem op_neF' {X : Cx} (hu : X.A.units + 64 < cLine) : OpR X (compareOp .NotEq) (rEqF X.K true) := by
  intro pins s σ H x y v u Q I rx ry h
  obtain ⟨F, dx, dy, sb, hx, hy, ⟨p, e1, z1⟩, ⟨q, e2, z2⟩, h⟩ := h
  obtain ⟨as, r1⟩ := DR.reads I sb dx p x v hx e1 rx
  obtain ⟨bs, r2⟩ := DR.reads I sb dy q y u hy e2 ry
  have e : eqD dx dy = PyData.eqv p q := by unfold eqD; rw [e1, e2]
  exact SeqAt.compareNe_shaped r1 r2 z1 z2 hu ⟨.bl _, H, I, rfl, by rw [← e]; exact h⟩
/-- a list beside an empty one: by how long it is -/
def rEqE (K : PySem.W.Frag) (neg : Bool) : R2 := fun x y H Q => ∃ F xs, Sub F H ∧ DR K F x (.lst xs) ∧ DR K F y (.lst []) ∧ Q (.bl (Bool.xor neg xs.isEmpty)) H
theorem op_eqE {X : Cx} (hu : X.A.units + 64 < cLine) : OpR X (compareOp .Eq) (rEqE X.K false) := by
  intro pins s σ H x y v u Q I rx ry h
  obtain ⟨F, xs, sb, hx, hy, h⟩ := h
  cases xs with
  | nil =>
    obtain ⟨as, r1⟩ := DR.reads I sb (.lst []) (.list []) x v hx rfl rx
    obtain ⟨bs, r2⟩ := DR.reads I sb (.lst []) (.list []) y u hy rfl ry
    exact SeqAt.compareEq_shaped r1 r2 rfl rfl hu ⟨.bl true, H, I, rfl, h⟩
  | cons d r =>
    cases hx with
    | lst ha hs => cases hy with
      | lst hb hs2 =>
        cases rx; cases ry
        obtain ⟨i1, v1, ⟨o1, n1, p1, c1, _, d1⟩, _⟩ := I.list (SqL.of (sb _ _ ha))
        obtain ⟨i2, v2, ⟨o2, n2, p2, c2, _, d2⟩, _⟩ := I.list (SqL.of (sb _ _ hb))
        have l1 : i1.length = r.length + 1 := by rw [← v1.length, hs.length]; rfl
        have l2 : i2.length = 0 := by rw [← v2.length, hs2.length]; rfl
        exact PySem.SeqAt.eq_list_lengthsAt ⟨o1, p1, c1, n1, d1⟩ ⟨o2, p2, c2, n2, d2⟩ (by rw [List.size_toArray, List.size_toArray, l1, l2]; rfl) (by omega) ⟨.bl false, H, I, rfl, h⟩
theorem op_neE {X : Cx} (hu : X.A.units + 64 < cLine) : OpR X (compareOp .NotEq) (rEqE X.K true) := by
  intro pins s σ H x y v u Q I rx ry h
  obtain ⟨F, xs, sb, hx, hy, h⟩ := h
  cases xs with
  | nil =>
    obtain ⟨as, r1⟩ := DR.reads I sb (.lst []) (.list []) x v hx rfl rx
    obtain ⟨bs, r2⟩ := DR.reads I sb (.lst []) (.list []) y u hy rfl ry
    exact SeqAt.compareNe_shaped r1 r2 rfl rfl hu ⟨.bl false, H, I, rfl, h⟩
  | cons d r =>
    cases hx with
    | lst ha hs => cases hy with
      | lst hb hs2 =>
        cases rx; cases ry
        obtain ⟨i1, v1, ⟨o1, n1, p1, c1, _, d1⟩, _⟩ := I.list (SqL.of (sb _ _ ha))
        obtain ⟨i2, v2, ⟨o2, n2, p2, c2, _, d2⟩, _⟩ := I.list (SqL.of (sb _ _ hb))
        have l1 : i1.length = r.length + 1 := by rw [← v1.length, hs.length]; rfl
        have l2 : i2.length = 0 := by rw [← v2.length, hs2.length]; rfl
        exact PySem.SeqAt.RcNeAt.lists_lengths ⟨o1, p1, c1, n1, d1⟩ ⟨o2, p2, c2, n2, d2⟩ (by rw [List.size_toArray, List.size_toArray, l1, l2]; rfl) (by omega) _ _ _ _ ⟨.bl true, H, I, rfl, h⟩
def rEqA (K : PySem.W.Frag) : R2 := fun x y H Q => rEqF K false x y H Q ∨ (rEqE K false x y H Q ∨ rEq x y H Q)
def rNeA (K : PySem.W.Frag) : R2 := fun x y H Q => rEqF K true x y H Q ∨ (rEqE K true x y H Q ∨ rNe x y H Q)
theorem op_eqF {X : Cx} (hu : X.A.units + 64 < cLine) : OpR X (compareOp .Eq) (rEqA X.K) := (op_eqF' hu).or ((op_eqE hu).or op_eq)
theorem op_neF {X : Cx} (hu : X.A.units + 64 < cLine) : OpR X (compareOp .NotEq) (rNeA X.K) := (op_neF' hu).or ((op_neE hu).or op_ne)
theorem opd_eq {K : PySem.W.Frag} : OpD K (rEqA K) fEq := fun F H ms x y dx dy P Q R rx ry h q => by
  have gen : ShD dx ∧ ShD dy ∧ P (.bl (eqD dx dy)) ms → rEqA K x y H Q := fun h => .inl ⟨F, dx, dy, R.sub, rx, ry, h.1, h.2.1, q _ ms _ F H h.2.2 R Stp.refl (.bl _)⟩
  cases rx with
  | int i => cases ry with
    | int j => exact .inr (.inr ⟨rfl, by rw [dec_int]; exact q _ ms _ F H h R Stp.refl (.bl _)⟩)
    | _ => exact gen h
  | str i => cases ry with
    | str j => exact .inr (.inr ⟨rfl, by rw [dec_str]; exact q _ ms _ F H h R Stp.refl (.bl _)⟩)
    | _ => exact gen h
  | lst ha hs => cases ry with
    | lst hb hs2 =>
      rename_i ys
      cases ys with
      | nil => exact .inr (.inl ⟨F, _, R.sub, .lst ha hs, .lst hb hs2, by rw [Bool.false_xor]; exact q _ ms _ F H h R Stp.refl (.bl _)⟩)
      | cons _ _ => exact gen h
    | _ => exact gen h
  | _ => exact gen h
theorem opd_ne {K : PySem.W.Frag} : OpD K (rNeA K) fNe := fun F H ms x y dx dy P Q R rx ry h q => by
  have gen : ShD dx ∧ ShD dy ∧ P (.bl (!eqD dx dy)) ms → rNeA K x y H Q := fun h => .inl ⟨F, dx, dy, R.sub, rx, ry, h.1, h.2.1, q _ ms _ F H h.2.2 R Stp.refl (.bl _)⟩
  cases rx with
  | int i => cases ry with
    | int j => exact .inr (.inr ⟨rfl, by rw [dec_int]; exact q _ ms _ F H h R Stp.refl (.bl _)⟩)
    | _ => exact gen h
  | str i => cases ry with
    | str j => exact .inr (.inr ⟨rfl, by rw [dec_str]; exact q _ ms _ F H h R Stp.refl (.bl _)⟩)
    | _ => exact gen h
  | lst ha hs => cases ry with
    | lst hb hs2 =>
      rename_i ys
      cases ys with
      | nil => exact .inr (.inl ⟨F, _, R.sub, .lst ha hs, .lst hb hs2, by rw [Bool.true_xor]; exact q _ ms _ F H h R Stp.refl (.bl _)⟩)
      | cons _ _ => exact gen h
    | _ => exact gen h
  | _ => exact gen h
def fIx : OF := fun x y ms P => match y with
  | .int i => (match x with
    | .tup xs => (match atI xs i with
      | some d => P d ms
      | none => False)
    | .str z => z.length ≤ sizeLine ∧ (match atI z.cps.toList i with
      | some c => P (.str ⟨#[c]⟩) ms
      | none => False)
    | _ => (match asL x ms with
      | some xs => (match atI xs i with
        | some d => P d ms
        | none => False)
      | none => False))
  | _ => False
theorem DRs.at {K : PySem.W.Frag} {F : Hp} {vs : List V} {xs : List D} {i : Int} {d : D} (r : DRs K F vs xs) (h : atI xs i = some d) : ∃ v, atI vs i = some v ∧ DR K F v d := by
  unfold atI at h ⊢
  rw [r.length]
  cases e : ixN xs.length i with
  | none => rw [e] at h; cases h
  | some j =>
    rw [e] at h
    exact r.get h
theorem opd_ix {K : PySem.W.Frag} : OpD K (rIx K) fIx := by
  intro F H ms x y dx dy P Q R rx ry h q
  cases ry with
  | int i =>
    unfold fIx at h
    have lst : ∀ {xs : List D}, asL dx ms = some xs → (match atI xs i with | some d => P d ms | none => False) → rIx K x (.int i) H Q := by
      intro xs e h
      obtain ⟨a, vs, rfl, hs, rs⟩ := R.asL rx e
      cases e2 : atI xs i with
      | none => rw [e2] at h; exact h.elim
      | some d =>
        rw [e2] at h
        obtain ⟨v, h1, h2⟩ := rs.at e2
        exact .inl ⟨a, vs, i, v, rfl, rfl, hs, h1, q d ms v F H h R Stp.refl h2⟩
    cases rx with
    | tup ha hs =>
      rename_i xs
      simp only at h
      cases e2 : atI xs i with
      | none => rw [e2] at h; exact h.elim
      | some d =>
        rw [e2] at h
        obtain ⟨v, h1, h2⟩ := hs.at e2
        exact .inr (.inl ⟨_, _, i, v, rfl, rfl, R.sub.sqT ha, h1, q d ms v F H h R Stp.refl h2⟩)
    | str z =>
      simp only at h
      obtain ⟨hz, h⟩ := h
      cases e2 : atI z.cps.toList i with
      | none => rw [e2] at h; exact h.elim
      | some c =>
        rw [e2] at h
        exact .inr (.inr ⟨z, i, c, rfl, rfl, hz, e2, q _ ms _ F H h R Stp.refl (.str _)⟩)
    | lst ha hs => exact lst rfl h
    | fro ha hs => exact lst rfl h
    | opq _ =>
      simp only at h
      cases e : asL (.opq x) ms with
      | none => rw [e] at h; exact h.elim
      | some xs => rw [e] at h; exact lst e h
    | _ => exact h.elim
  | _ => exact h.elim
def put : MS → Addr → List D → MS
  | [], _, _ => []
  | (q, xs) :: r, p, ys => if q = p then (q, ys) :: r else (q, xs) :: put r p ys
theorem put_fst : ∀ (ms : MS) (p : Addr) (ys : List D), (put ms p ys).map (·.1) = ms.map (·.1)
  | [], _, _ => rfl
  | (q, xs) :: r, p, ys => by
    unfold put
    split
    · rfl
    · rw [List.map_cons, List.map_cons, put_fst r p ys]
theorem put_mem : ∀ {ms : MS} {p : Addr} {ys : List D}, (ms.map (·.1)).Nodup → ∀ e ∈ put ms p ys, (e.1 = p ∧ e.2 = ys) ∨ (e ∈ ms ∧ e.1 ≠ p)
  | [], _, _, _, _, h => by cases h
  | (q, xs) :: r, p, ys, nd, e, h => by
    rw [List.map_cons, List.nodup_cons] at nd
    unfold put at h
    split at h
    · rename_i hq
      rcases List.mem_cons.mp h with rfl | h
      · exact .inl ⟨hq, rfl⟩
      · refine .inr ⟨List.mem_cons_of_mem _ h, fun z => nd.1 ?_⟩
        show q ∈ _
        rw [hq, ← z]
        exact List.mem_map_of_mem h
    · rename_i hq
      rcases List.mem_cons.mp h with rfl | h
      · exact .inr ⟨List.mem_cons_self, hq⟩
      · rcases put_mem nd.2 e h with z | z
        · exact .inl z
        · exact .inr ⟨List.mem_cons_of_mem _ z.1, z.2⟩
theorem look_put_same : ∀ {ms : MS} {p : Addr} {xs ys : List D}, look ms p = some xs → look (put ms p ys) p = some ys
  | [], _, _, _, h => by cases h
  | (q, zs) :: r, p, xs, ys, h => by
    unfold look at h
    unfold put
    by_cases e : q = p
    · rw [if_pos e, look, if_pos e]
    · rw [if_neg e] at h ⊢
      rw [look, if_neg e]
      exact look_put_same h
theorem look_put_ne : ∀ {ms : MS} {p q : Addr} {ys : List D}, p ≠ q → look (put ms p ys) q = look ms q
  | [], _, _, _, _ => rfl
  | (r, zs) :: ms, p, q, ys, h => by
    unfold put
    by_cases e : r = p
    · subst e
      rw [if_pos rfl, look, look, if_neg h, if_neg h]
    · rw [if_neg e, look, look, look_put_ne h]
section
variable {K : PySem.W.Frag} {F H : Hp} {ms : MS}
theorem relPut (R : Rel K F H ms) {p : Addr} {xs ys : List D} {ws : List V} (h : look ms p = some xs) (r : DRs K F ws ys) : Rel K F (upd H p (.lst ws)) (put ms p ys) := by
  obtain ⟨hF, vs, hH, _⟩ := R.look h
  refine ⟨fun b u e => ?_, fun e he => ?_, by rw [put_fst]; exact R.nd, R.one⟩
  · rw [upd_ne fun z => by rw [z, hF] at e; cases e]; exact R.sub b u e
  · rcases put_mem R.nd e he with ⟨z1, z2⟩ | ⟨z1, z2⟩
    · rw [z1, z2]; exact ⟨hF, ws, upd_same, r⟩
    · obtain ⟨y1, us, y2, y3⟩ := R.mu e z1
      exact ⟨y1, us, by rw [upd_ne z2]; exact y2, y3⟩
theorem stpPut (R : Rel K F H ms) {p : Addr} {xs ys : List D} {ws : List V} (h : look ms p = some xs) : Stp F H ms F (upd H p (.lst ws)) (put ms p ys) := by
  refine ⟨Sub.refl F, fun a u z1 z2 z3 => ?_, fun _ _ h => .inl h, fun e he => .inl ?_⟩
  · rw [upd_ne fun z => z3 _ (look_mem h) z.symm]; exact z1
  · have := List.mem_map_of_mem (f := (·.1)) he
    rw [put_fst] at this
    obtain ⟨q, hq, z⟩ := List.mem_map.mp this
    exact ⟨q, hq, z⟩
end
def dSetIx (do_ di dv : DE) : DTS := fun E ds ms => dv ds ms fun v m1 => do_ ds m1 fun o m2 => di ds m2 fun i m3 => match o, i with
  | .opq (.ref p), .int k => (match look m3 p with
    | some xs => (match ixN xs.length k with
      | some j => E.nx ds (put m3 p (xs.set j v))
      | none => False)
    | none => False)
  | _, _ => False
section
variable {X : Cx} {o i e : Expr} {do_ di dv : DE} {pos spos : Pos}
theorem pds_setIx (he : PD X e dv) (ho : PD X o do_) (hi : PD X i di)
    (ha : ∀ v, assign (.Subscript o i pos) X.env v = (do
      let ov ← holding [v] (eval o X.env)
      let iv ← holding [v, ov] (eval i X.env)
      standAt pos
      holding [v, ov, iv] (setItem ov iv v)
      release [v, ov, iv] []) := by intro _; rfl)
    (hs : swapsWithSole [.Subscript o i pos] e spos.line X.env = pure false := by rfl) (hw : swappedStores [.Subscript o i pos] e X.env = pure none := by rfl)
    (h1 : (assignEach [.Subscript o i pos] X.env).map (·.2) = [assign (.Subscript o i pos) X.env] := by rfl) : PDS X (.Assign [.Subscript o i pos] e spos) (dSetIx do_ di dv) :=
  psImp (ps_asg he (pg_sub ho hi set_list ha) hs hw h1) fun D σ H ⟨F, ds, ms, E, R, S, h, n, r, k, q⟩ =>
    ⟨F, ds, ms, _, R, S, h, fun d m1 v F1 H1 p1 R1 s1 r1 => ⟨F1, ds, m1, _, R1, S.mono s1.sub, p1, fun do' m2 o' F2 H2 p2 R2 s2 r2 =>
      ⟨F2, ds, m2, _, R2, S.mono (s1.trans s2).sub, p2, fun di' m3 i' F3 H3 p3 R3 s3 r3 => by
        match do', di', p3, r2, r3 with
        | .opq (.ref p), .int kk, p3, r2, .int _ =>
          cases r2
          cases e1 : look m3 p with
          | none => simp only [e1] at p3
          | some xs =>
            simp only [e1] at p3
            cases e2 : ixN xs.length kk with
            | none => simp only [e2] at p3
            | some j =>
              simp only [e2] at p3
              obtain ⟨hF, vs, hH, rs⟩ := R3.look e1
              refine ⟨p, vs, kk, j, rfl, rfl, hH, by rw [rs.length]; exact e2, ?_⟩
              have s13 := (s1.trans s2).trans s3
              exact n ds _ σ F3 _ p3 (relPut R3 e1 (rs.set ((r1.mono s2.sub).mono s3.sub) j)) (s13.trans (stpPut R3 e1)) (S.mono s13.sub)⟩⟩⟩
end
def dAppend (dx : DE) (aa : DA) : DE := fun ds ms P => dx ds ms fun x m1 => match x with
  | .opq (.ref p) => (∃ xs0, look m1 p = some xs0) ∧ aa ds m1 fun ys m2 => (match ys with
    | [y] => (match look m2 p with
      | some xs => xs.length < sizeLine ∧ P .non (put m2 p (xs ++ [y]))
      | none => False)
    | _ => False)
  | _ => False
section
variable {X : Cx} {o e : Expr} {dx : DE} {aa : DA} {apos cpos : Pos}
theorem pd_append (ho : PD X o dx) (ha : PDA X [e] aa)
    (hbase : attributeBase o "append" X.env (eval o X.env) = eval o X.env := by rfl)
    (hfew : ((backTo cpos (starEach [e] X.env)).all (fun x => !x.1) && (backToKw cpos (keywordEach [] X.env)).all (fun x => x.1.isSome) && decide ([e].length + ([] : List Keyword).length + (if ([] : List Keyword).isEmpty then 0 else 1) < 30)) = true := by rfl)
    (hline : (apos.endLine == cpos.line) = true := by rfl) (hs : starEach [e] X.env = (false, eval e X.env) :: starEach [] X.env := by rfl) (hplain : (backTo cpos (starEach [] X.env)).any (·.1) = false := by rfl) :
    PD X (.Call (.Attribute o "append" apos) [e] [] cpos) (dAppend dx aa) :=
  peImp (pe_bm PySem.F.plainAttrs_list PySem.F.slot_list_append PySem.F.type_list_append mt_append ho ha hbase hfew hline hs hplain) fun σ H Q ⟨F, ds, ms, P, R, S, h1, h2⟩ =>
    ⟨F, ds, ms, _, R, S, h1, fun x m1 v F1 H1 p1 R1 s1 r1 => by
      match x, p1, r1 with
      | .opq (.ref p), ⟨⟨xs0, e0⟩, h⟩, r1 =>
        cases r1
        obtain ⟨hF, vs, hH, rs⟩ := R1.look e0
        refine ⟨.inl ⟨rfl, vs, SqL.of hH⟩, F1, ds, m1, _, R1, S.mono s1.sub, h, fun ys m2 ws F2 H2 p2 R2 s2 r2 => ?_⟩
        match ys, r2, p2 with
        | [y], .cons ry .nil, p3 =>
          cases e1 : look m2 p with
          | none => simp only [e1] at p3
          | some xs =>
            simp only [e1] at p3
            obtain ⟨hF2, vs2, hH2, rs2⟩ := R2.look e1
            exact ⟨p, vs2, _, rfl, rfl, hH2, by rw [rs2.length]; exact p3.1, h2 _ _ _ F2 _ p3.2 (relPut R2 e1 (rs2.append (.cons ry .nil))) ((s1.trans s2).trans (stpPut R2 e1)) .non⟩⟩
end
def drp : MS → Addr → MS
  | [], _ => []
  | (q, xs) :: r, p => if q = p then r else (q, xs) :: drp r p
theorem drp_sub : ∀ {ms : MS} {p : Addr}, ∀ e ∈ drp ms p, e ∈ ms
  | [], _, _, h => by cases h
  | (q, xs) :: r, p, e, h => by
    unfold drp at h
    split at h
    · exact List.mem_cons_of_mem _ h
    · rcases List.mem_cons.mp h with rfl | h
      · exact List.mem_cons_self
      · exact List.mem_cons_of_mem _ (drp_sub e h)
theorem drp_ne : ∀ {ms : MS} {p : Addr}, (ms.map (·.1)).Nodup → ∀ e ∈ drp ms p, e.1 ≠ p
  | [], _, _, _, h => by cases h
  | (q, xs) :: r, p, nd, e, h => by
    rw [List.map_cons, List.nodup_cons] at nd
    unfold drp at h
    split at h
    · rename_i hq
      exact fun z => nd.1 (by show q ∈ _; rw [hq, ← z]; exact List.mem_map_of_mem h)
    · rename_i hq
      rcases List.mem_cons.mp h with rfl | h
      · exact hq
      · exact drp_ne nd.2 e h
theorem drp_nd : ∀ {ms : MS} {p : Addr}, (ms.map (·.1)).Nodup → ((drp ms p).map (·.1)).Nodup
  | [], _, h => h
  | (q, xs) :: r, p, nd => by
    rw [List.map_cons, List.nodup_cons] at nd
    unfold drp
    split
    · exact nd.2
    · rw [List.map_cons, List.nodup_cons]
      refine ⟨fun z => nd.1 ?_, drp_nd nd.2⟩
      obtain ⟨e, he, ze⟩ := List.mem_map.mp z
      exact List.mem_map.mpr ⟨e, drp_sub e he, ze⟩
section
variable {K : PySem.W.Frag} {F H : Hp} {ms : MS}
theorem relFrz (R : Rel K F H ms) {p : Addr} {xs : List D} (h : look ms p = some xs) : ∃ vs, Rel K (upd F p (.lst vs)) H (drp ms p) ∧ Stp F H ms (upd F p (.lst vs)) H (drp ms p) ∧ DR K (upd F p (.lst vs)) (.ref p) (.lst xs) := by
  obtain ⟨hF, vs, hH, rs⟩ := R.look h
  have sF : Sub F (upd F p (.lst vs)) := Sub.new hF
  refine ⟨vs, ⟨fun b u e => ?_, fun e he => ?_, drp_nd R.nd, R.one.mono sF⟩, ⟨sF, fun a u h _ _ => h, fun a u e => ?_, fun e he => .inl ⟨e, drp_sub e he, rfl⟩⟩, .lst upd_same (rs.mono sF)⟩
  · by_cases hb : b = p
    · subst hb; rw [upd_same] at e; rw [hH]; exact e
    · rw [upd_ne hb] at e; exact R.sub b u e
  · obtain ⟨y1, us, y2, y3⟩ := R.mu e (drp_sub e he)
    exact ⟨by rw [upd_ne (drp_ne R.nd e he)]; exact y1, us, y2, y3.mono sF⟩
  · by_cases hb : a = p
    · subst hb; exact .inr (.inr ⟨_, look_mem h, rfl⟩)
    · rw [upd_ne hb] at e; exact .inl e
end
def dFrz (de : DE) : DE := fun ds ms P => de ds ms fun d m => match d with
  | .opq (.ref p) => (match look m p with
    | some xs => P (.lst xs) (drp m p)
    | none => False)
  | _ => False
theorem pd_frz {X : Cx} {e : Expr} {de : DE} (h : PD X e de) : PD X e (dFrz de) := peImp h fun σ H Q ⟨F, ds, ms, P, R, S, h1, h2⟩ =>
  ⟨F, ds, ms, _, R, S, h1, fun d m v F1 H1 p1 R1 s1 r1 => by
    match d, p1, r1 with
    | .opq (.ref p), p1, r1 =>
      cases r1
      cases e1 : look m p with
      | none => simp only [e1] at p1
      | some xs =>
        simp only [e1] at p1
        obtain ⟨vs, z1, z2, z3⟩ := relFrz R1 e1
        exact h2 _ _ _ _ _ p1 z1 (s1.trans z2) z3⟩
end DL
namespace DL
open PySem PySem.Spec PyProof.Rows L2
abbrev CF := List D → MS → (D → MS → Prop) → Prop
def CalD (K : PySem.W.Frag) (r : List V → Hp → VK → Prop) (f : CF) : Prop := ∀ (F H : Hp) (ms : MS) (vs : List V) (xs : List D) (P : D → MS → Prop) (Q : VK), Rel K F H ms → DRs K F vs xs → f xs ms P →
  (∀ d ms' v F' H', P d ms' → Rel K F' H' ms' → Stp F H ms F' H' ms' → DR K F' v d → Q v H') → r vs H Q
def dCB (f : CF) (aa : DA) : DE := fun ds ms P => aa ds ms fun xs m => f xs m P
section
variable {X : Cx} {K : PySem.W.Frag} {x : Str} {p pos : Pos} {e : Expr} {es : List Expr} {aa : DA} {id T : String} {r : List V → Hp → VK → Prop} {f : CF} {da : DE}
theorem lift_cb (hf : CalD K r f) : ∀ σ H Q, lift K (dCB f aa) σ H Q → tCB r (liftA K aa) σ H Q := fun σ H Q ⟨F, ds, ms, P, R, S, h1, h2⟩ =>
  ⟨F, ds, ms, _, R, S, h1, fun xs m vs F1 H1 p1 R1 s1 r1 => hf F1 H1 m vs xs P Q R1 r1 p1 fun d m2 v F2 H2 p2 R2 s2 r2 => h2 d m2 v F2 H2 p2 R2 (s1.trans s2) r2⟩
theorem pd_callB (hc : CallR X (.builtin id) r) (hf : CalD X.K r f) (hg : Gl X x) (hm : X.mg x = none) (hv : bootBuiltins x = some (.builtin id)) (ha : PDA X (e :: es) aa) (hn : x ≠ "__name__" := by decide) (hdb : (x == ("__debug__" : Str)) = false := by decide)
    (he : starEach (e :: es) X.env = (false, eval e X.env) :: starEach es X.env := by rfl) (hpl : (backTo pos (starEach es X.env)).any (·.1) = false := by rfl) : PD X (.Call (.Name x p) (e :: es) [] pos) (dCB f aa) :=
  peImp (pe_callB hc hg hm hv ha hn hdb he hpl) (lift_cb hf)
theorem pd_callTy (hc : CallR X (.type T) r) (hf : CalD X.K r f) (hg : Gl X x) (hm : X.mg x = none) (hv : bootBuiltins x = some (.type T)) (ha : PDA X (e :: es) aa) (hn : x ≠ "__name__" := by decide) (hdb : (x == ("__debug__" : Str)) = false := by decide)
    (he : starEach (e :: es) X.env = (false, eval e X.env) :: starEach es X.env := by rfl) (hpl : (backTo pos (starEach es X.env)).any (·.1) = false := by rfl) : PD X (.Call (.Name x p) (e :: es) [] pos) (dCB f aa) :=
  peImp (pe_callTy hc hg hm hv ha hn hdb he hpl) (lift_cb hf)
end
def cAbs : CF := fun xs ms P => match xs with
  | [.int i] => P (.int (if i < 0 then -i else i)) ms
  | _ => False
def cMax2 : CF := fun xs ms P => match xs with
  | [.int i, .int j] => P (.int (if j > i then j else i)) ms
  | _ => False
def cMin2 : CF := fun xs ms P => match xs with
  | [.int i, .int j] => P (.int (if j < i then j else i)) ms
  | _ => False
def cInt1 : CF := fun xs ms P => match xs with
  | [.int i] => P (.int i) ms
  | [.bl k] => P (.int (if k then 1 else 0)) ms
  | _ => False
def cLen : CF := fun xs ms P => match xs with
  | [.str z] => z.length ≤ sizeLine ∧ P (.int z.length) ms
  | [.tup ys] => P (.int ys.length) ms
  | [d] => (match asL d ms with
    | some ys => P (.int ys.length) ms
    | none => False)
  | _ => False
def cList : CF := fun xs ms P => match xs with
  | [.tup ys] => P (.lst ys) ms
  | [d] => (match asL d ms with
    | some ys => P (.lst ys) ms
    | none => False)
  | _ => False
def cTuple : CF := fun xs ms P => match xs with
  | [.tup ys] => P (.tup ys) ms
  | [d] => (match asL d ms with
    | some ys => P (.tup ys) ms
    | none => False)
  | _ => False
/-- the truths in a list, the ints in a list -/
def blsOf : List D → Option (List Bool)
  | [] => some []
  | .bl b :: r => (blsOf r).map (b :: ·)
  | _ :: _ => none
def intsOf : List D → Option (List Int)
  | [] => some []
  | .int b :: r => (intsOf r).map (b :: ·)
  | _ :: _ => none
def cAll : CF := fun xs ms P => match xs with
  | [.lst ys] => (match blsOf ys with
    | some bs => P (.bl (bs.all id)) ms
    | none => False)
  | _ => False
def cAny : CF := fun xs ms P => match xs with
  | [.lst ys] => (match blsOf ys with
    | some bs => P (.bl (bs.any id)) ms
    | none => False)
  | _ => False
def cSum : CF := fun xs ms P => match xs with
  | [.lst ys] => (match intsOf ys with
    | some ns => P (.int ns.sum) ms
    | none => False)
  | _ => False
section
variable {X : Cx} {K : PySem.W.Frag} {F : Hp}
theorem DRs.bls : ∀ {vs : List V} {ys : List D} {bs : List Bool}, DRs K F vs ys → blsOf ys = some bs → vs = bs.map V.bl
  | _, _, _, .nil, h => by cases h; rfl
  | _, .bl b :: r, bs, .cons (.bl _) t, h => by
    unfold blsOf at h
    obtain ⟨cs, e, rfl⟩ := Option.map_eq_some_iff.mp h
    rw [List.map_cons, DRs.bls t e]
  | _, .non :: _, _, .cons _ _, h => by cases h
  | _, .int _ :: _, _, .cons _ _, h => by cases h
  | _, .str _ :: _, _, .cons _ _, h => by cases h
  | _, .lst _ :: _, _, .cons _ _, h => by cases h
  | _, .tup _ :: _, _, .cons _ _, h => by cases h
  | _, .fro _ :: _, _, .cons _ _, h => by cases h
  | _, .edic :: _, _, .cons _ _, h => by cases h
  | _, .dct _ :: _, _, .cons _ _, h => by cases h
  | _, .opq _ :: _, _, .cons _ _, h => by cases h
  | _, .exc _ _ _ :: _, _, .cons _ _, h => by cases h
theorem DRs.intsV : ∀ {vs : List V} {ys : List D} {bs : List Int}, DRs K F vs ys → intsOf ys = some bs → vs = bs.map V.int
  | _, _, _, .nil, h => by cases h; rfl
  | _, .int b :: r, bs, .cons (.int _) t, h => by
    unfold intsOf at h
    obtain ⟨cs, e, rfl⟩ := Option.map_eq_some_iff.mp h
    rw [List.map_cons, DRs.intsV t e]
  | _, .non :: _, _, .cons _ _, h => by cases h
  | _, .bl _ :: _, _, .cons _ _, h => by cases h
  | _, .str _ :: _, _, .cons _ _, h => by cases h
  | _, .lst _ :: _, _, .cons _ _, h => by cases h
  | _, .tup _ :: _, _, .cons _ _, h => by cases h
  | _, .fro _ :: _, _, .cons _ _, h => by cases h
  | _, .edic :: _, _, .cons _ _, h => by cases h
  | _, .dct _ :: _, _, .cons _ _, h => by cases h
  | _, .opq _ :: _, _, .cons _ _, h => by cases h
  | _, .exc _ _ _ :: _, _, .cons _ _, h => by cases h
theorem cal_max2 : CalD K (fun xs H Q => ∃ i j, xs = [.int i, .int j] ∧ Q (.int (if j > i then j else i)) H) cMax2 := fun F H ms vs xs P Q R r h q => by
  match xs, r, h with
  | [.int i, .int j], .cons (.int _) (.cons (.int _) .nil), h => exact ⟨i, j, rfl, q _ ms _ F H h R Stp.refl (.int _)⟩
theorem cal_min2 : CalD K (fun xs H Q => ∃ i j, xs = [.int i, .int j] ∧ Q (.int (if j < i then j else i)) H) cMin2 := fun F H ms vs xs P Q R r h q => by
  match xs, r, h with
  | [.int i, .int j], .cons (.int _) (.cons (.int _) .nil), h => exact ⟨i, j, rfl, q _ ms _ F H h R Stp.refl (.int _)⟩
theorem cal_len : CalD K (fun xs H Q => ∃ x n, xs = [x] ∧ LenV K x H n ∧ Q (.int n) H) cLen := fun F H ms vs xs P Q R r h q => by
  match xs, r, h with
  | a :: _ :: _, _, h => cases a <;> exact h.elim
  | [d], .cons (v := v) rd .nil, h =>
    have fin : ∀ {ys : List D}, asL d ms = some ys → P (.int ys.length) ms → ∃ x n, [v] = [x] ∧ LenV K x H n ∧ Q (.int n) H := by
      intro ys e hp
      obtain ⟨a, ws, rfl, h1, h2⟩ := R.asL rd e
      exact ⟨_, _, rfl, .inl ⟨ws, h1, rfl⟩, q _ ms _ F H (by rw [h2.length]; exact hp) R Stp.refl (.int _)⟩
    cases rd with
    | str z => exact ⟨_, _, rfl, ⟨h.1, rfl⟩, q _ ms _ F H h.2 R Stp.refl (.int _)⟩
    | tup ha hs => exact ⟨_, _, rfl, .inr ⟨_, R.sub.sqT ha, rfl⟩, q _ ms _ F H (by rw [hs.length]; exact h) R Stp.refl (.int _)⟩
    | lst ha hs => exact fin rfl h
    | fro ha hs => exact fin rfl h
    | opq _ =>
      unfold cLen at h
      simp only at h
      cases e : asL (.opq v) ms with
      | none => rw [e] at h; exact h.elim
      | some ys => rw [e] at h; exact fin e h
    | _ => exact h.elim
theorem cal_list : CalD K (fun xs H Q => ∃ p ys, xs = [.ref p] ∧ (SqL K H p ys ∨ SqT K H p ys) ∧ ∀ l, H l = none → Q (.ref l) (upd H l (.lst ys))) cList := fun F H ms vs xs P Q R r h q => by
  match xs, r, h with
  | a :: _ :: _, _, h => cases a <;> exact h.elim
  | [d], .cons (v := v) rd .nil, h =>
    have fin : ∀ {ys : List D}, asL d ms = some ys → P (.lst ys) ms → ∃ p zs, [v] = [V.ref p] ∧ (SqL K H p zs ∨ SqT K H p zs) ∧ ∀ l, H l = none → Q (.ref l) (upd H l (.lst zs)) := by
      intro ys e hp
      obtain ⟨a, ws, rfl, h1, h2⟩ := R.asL rd e
      exact ⟨_, _, rfl, .inl h1, fun l hl => q _ ms _ _ _ hp (R.new hl) (Stp.new R hl) (R.newLst hl h2)⟩
    cases rd with
    | tup ha hs => exact ⟨_, _, rfl, .inr (R.sub.sqT ha), fun l hl => q _ ms _ _ _ h (R.new hl) (Stp.new R hl) (R.newLst hl hs)⟩
    | lst ha hs => exact fin rfl h
    | fro ha hs => exact fin rfl h
    | opq _ =>
      unfold cList at h
      simp only at h
      cases e : asL (.opq v) ms with
      | none => rw [e] at h; exact h.elim
      | some ys => rw [e] at h; exact fin e h
    | _ => exact h.elim
theorem cal_tuple : CalD K (fun xs H Q => ∃ p ys, xs = [.ref p] ∧ ((SqL K H p ys ∧ ∀ l, H l = none → Q (.ref l) (upd H l (.tup ys))) ∨ (SqT K H p ys ∧ Q (.ref p) H))) cTuple := fun F H ms vs xs P Q R r h q => by
  match xs, r, h with
  | a :: _ :: _, _, h => cases a <;> exact h.elim
  | [d], .cons (v := v) rd .nil, h =>
    have fin : ∀ {ys : List D}, asL d ms = some ys → P (.tup ys) ms → ∃ p zs, [v] = [V.ref p] ∧ ((SqL K H p zs ∧ ∀ l, H l = none → Q (.ref l) (upd H l (.tup zs))) ∨ (SqT K H p zs ∧ Q (.ref p) H)) := by
      intro ys e hp
      obtain ⟨a, ws, rfl, h1, h2⟩ := R.asL rd e
      exact ⟨_, _, rfl, .inl ⟨h1, fun l hl => q _ ms _ _ _ hp (R.new hl) (Stp.new R hl) (R.newTup hl h2)⟩⟩
    cases rd with
    | tup ha hs => exact ⟨_, _, rfl, .inr ⟨R.sub.sqT ha, q _ ms _ F H h R Stp.refl (.tup ha hs)⟩⟩
    | lst ha hs => exact fin rfl h
    | fro ha hs => exact fin rfl h
    | opq _ =>
      unfold cTuple at h
      simp only at h
      cases e : asL (.opq v) ms with
      | none => rw [e] at h; exact h.elim
      | some ys => rw [e] at h; exact fin e h
    | _ => exact h.elim
theorem cal_all : CalD K (rAll K) cAll := fun F H ms vs xs P Q R r h q => by
  match xs, r, h with
  | [.lst ys], .cons (.lst ha hs) .nil, h =>
    unfold cAll at h
    cases e : blsOf ys with
    | none => simp only [e] at h
    | some bs =>
      simp only [e] at h
      have e2 := hs.bls e
      subst e2
      exact ⟨_, bs, rfl, SqL.of (R.sub _ _ ha), q _ ms _ F H h R Stp.refl (.bl _)⟩
theorem cal_sum : CalD K (rSum K) cSum := fun F H ms vs xs P Q R r h q => by
  match xs, r, h with
  | [.lst ys], .cons (.lst ha hs) .nil, h =>
    unfold cSum at h
    cases e : intsOf ys with
    | none => simp only [e] at h
    | some ns =>
      simp only [e] at h
      have e2 := hs.intsV e
      subst e2
      exact ⟨_, ns, rfl, SqL.of (R.sub _ _ ha), q _ ms _ F H h R Stp.refl (.int _)⟩
end
def Shw (d : D) : Prop := ∃ p, toPy d = some p ∧ p.showable = true ∧ p.depth ≤ 100 ∧ p.shown.length ≤ sizeLine
def repS (d : D) : Str := match toPy d with
  | some p => p.shown
  | none => default
def cRepr : CF := fun xs ms P => match xs with
  | [d] => Shw d ∧ P (.str (repS d)) ms
  | _ => False
def rRepr (K : PySem.W.Frag) : List V → Hp → VK → Prop := fun xs H Q => ∃ F x d, xs = [x] ∧ Sub F H ∧ OneR K F ∧ DR K F x d ∧ Shw d ∧ Q (.str (repS d)) H
theorem call_reprD {X : Cx} {k : Nat} (hr : RoomG k X.A) : CallR X (.builtin "repr") (rRepr X.K) := by
  intro pins s σ H xs us Q I r h
  obtain ⟨F, x, d, rfl, sb, one, hd, ⟨p, e, z1, z3, z4⟩, q⟩ := h
  obtain ⟨u, rfl, ru⟩ := vals1 r
  obtain ⟨as, rd, ou⟩ := DR.readsA I sb d p x u hd e ru
  have z2 : p.hasDict = true → sysModules ∉ as := fun _ hm => (ou _ hm).not1 one rfl
  have er : repS d = p.shown := by unfold repS; rw [e]
  rw [er] at q
  have hu : X.A.units + (p.depth + 1) < cLine := by have := hr.r.un; omega
  cases rd with
  | none => exact PySem.P.repr_of_none ⟨.str _, H, I.tok _, ⟨_, rfl⟩, q⟩
  | bool b => exact PySem.P.repr_of_bool ⟨.str _, H, I.tok _, ⟨_, rfl⟩, q⟩
  | int i t => exact PySem.P.repr_of_int (of_decide_eq_true z1) ⟨.str _, H, I.tok _, ⟨_, rfl⟩, q⟩
  | str y t => exact PySem.P.repr_of_str ⟨.str _, H, I.tok _, ⟨_, rfl⟩, q⟩ z4
  | list h1 h2 h3 h4 => exact repr_of_reads' (.list h1 h2 h3 h4) z1 z2 hr.g hu (fun _ _ e => e) (fun h' t tk hk => ⟨.str _, H, I.kept hk, ⟨_, rfl⟩, q⟩) z4
  | tuple h1 h2 h3 h4 => exact repr_of_reads' (.tuple h1 h2 h3 h4) z1 z2 hr.g hu (fun _ _ e => e) (fun h' t tk hk => ⟨.str _, H, I.kept hk, ⟨_, rfl⟩, q⟩) z4
  | dict h1 h2 h3 h4 h5 => exact repr_of_reads' (.dict h1 h2 h3 h4 h5) z1 z2 hr.g hu (fun _ _ e => e) (fun h' t tk hk => ⟨.str _, H, I.kept hk, ⟨_, rfl⟩, q⟩) z4
theorem cal_repr {K : PySem.W.Frag} : CalD K (rRepr K) cRepr := fun F H ms vs xs P Q R r h q => by
  match xs, r, h with
  | [d], .cons rd .nil, h => exact ⟨F, _, d, rfl, R.sub, R.one, rd, h.1, q _ ms _ F H h.2 R Stp.refl (.str _)⟩
inductive Ty where
  | non | bool | int | str | list | tuple | dict
  deriving DecidableEq
def Ty.nm : Ty → String
  | .non => "NoneType"
  | .bool => "bool"
  | .int => "int"
  | .str => "str"
  | .list => "list"
  | .tuple => "tuple"
  | .dict => "dict"
def tyD (d : D) : Option Ty := match d with
  | .non => some .non
  | .bl _ => some .bool
  | .int _ => some .int
  | .str _ => some .str
  | .lst _ => some .list
  | .tup _ => some .tuple
  | .edic => some .dict
  | _ => none
def subT (a b : Ty) : Bool := decide (a = b) || (decide (a = .bool) && decide (b = .int))
theorem subT_ok : ∀ a b : Ty, b ≠ .non → kitB a.nm b.nm = some (subT a b) := by
  intro a b h
  cases a <;> cases b <;> first | exact absurd rfl h | decide +kernel
def dIsi (T : Ty) (de : DE) : DE := fun ds ms P => de ds ms fun d m => match tyD d with
  | some a => P (.bl (subT a T)) m
  | none => False
theorem tyX_of {K : PySem.W.Frag} {F H : Hp} {ms : MS} {v : V} {d : D} {a : Ty} (R : Rel K F H ms) (r : DR K F v d) (h : tyD d = some a) : TyX K H v (.type a.nm) := by
  cases r with
  | non => cases h; exact .base .non
  | bl b => cases h; exact .base (.bl b)
  | int i => cases h; exact .base (.int i)
  | str x => cases h; exact .base (.str x)
  | lst ha hs => cases h; exact .base (.lst (R.sub _ _ ha))
  | tup ha hs =>
    cases h
    rcases R.sub.sqT ha with (z | ⟨o, z⟩) | ⟨o, its, n, z1, z2, _⟩
    · exact .base (.tup z)
    · exact .fTuple z
    · exact .kTuple z1 z2
  | edic ha => cases h; exact .base (.dK (R.sub _ _ ha))
  | _ => cases h
theorem pd_isi {X : Cx} {e : Expr} {de : DE} {x : Str} {p p2 pos : Pos} (T : Ty) (hT : T ≠ .non) (hg : Gl X "isinstance") (hm : X.mg "isinstance" = none) (hg2 : Gl X x) (hm2 : X.mg x = none) (hv : bootBuiltins x = some (.type T.nm)) (hn : x ≠ "__name__") (hd : (x == ("__debug__" : Str)) = false)
    (h : PD X e de) (he : starEach [e, .Name x p2] X.env = (false, eval e X.env) :: starEach [.Name x p2] X.env := by rfl) (hpl : (backTo pos (starEach [.Name x p2] X.env)).any (·.1) = false := by rfl) :
    PD X (.Call (.Name "isinstance" p) [e, .Name x p2] [] pos) (dIsi T de) :=
  peImp (pe_callB call_isi hg hm (by decide +kernel) (pa_cons h (pa_cons (pe_bltn (v := .ty T.nm) hg2 hm2 hv rfl hn hd) pa_nil) he) (by decide) (by decide) he hpl) fun σ H Q ⟨F, ds, ms, P, R, S, h1, h2⟩ =>
    ⟨F, ds, ms, _, R, S, h1, fun d m v F1 H1 p1 R1 s1 r1 => by
      cases e1 : tyD d with
      | none => rw [e1] at p1; exact p1.elim
      | some a =>
        rw [e1] at p1
        exact ⟨v, .ty T.nm, .type a.nm, .type T.nm, _, rfl, .ty _, tyX_of R1 r1 e1, kit_ty (subT_ok a T hT), h2 _ m _ F1 H1 p1 R1 s1 (.bl _)⟩⟩
abbrev DO := DS → MS → (Option Int → MS → Prop) → Prop
def liftO (K : PySem.W.Frag) (t : DO) : TO := fun σ H Q => ∃ F ds ms P, Rel K F H ms ∧ Sl K F σ ds ∧ t ds ms P ∧ ∀ o ms' F' H', P o ms' → Rel K F' H' ms' → Stp F H ms F' H' ms' → Q o H'
abbrev PDO (X : Cx) (e : Option Expr) (t : DO) : Prop := PO X e (liftO X.K t)
theorem poImp {X : Cx} {e : Option Expr} {t t' : TO} (h : PO X e t) (hi : ∀ σ H Q, t' σ H Q → t σ H Q) : PO X e t' := ⟨fun pins s σ H Q I hq => h.run pins s σ H Q I (hi σ H Q hq)⟩
def oNone : DO := fun _ ms P => P none ms
def oSome (de : DE) : DO := fun ds ms P => de ds ms fun d m => match d with
  | .int i => P (some i) m
  | _ => False
def cutL {α : Type} (xs : List α) (lo hi : Option Int) : List α := (xs.drop (HT.sIx xs.length 0 lo)).take (HT.sIx xs.length xs.length hi - HT.sIx xs.length 0 lo)
abbrev SF := D → Option Int → Option Int → MS → (D → MS → Prop) → Prop
def fSl : SF := fun x lo hi ms P => match x with
  | .str z => z.length ≤ sizeLine ∧ P (.str (cutS z lo hi)) ms
  | .tup xs => P (.tup (cutL xs lo hi)) ms
  | _ => (match asL x ms with
    | some xs => P (.lst (cutL xs lo hi)) ms
    | none => False)
def dSl (de : DE) (lo hi : DO) : DE := fun ds ms P => de ds ms fun x m1 => lo ds m1 fun l m2 => hi ds m2 fun u m3 => fSl x l u m3 P
section
variable {X : Cx} {K : PySem.W.Frag} {e : Expr} {de : DE} {lo hi : Option Expr} {tl th : DO} {p2 pos : Pos} {F : Hp}
theorem pdo_none : PDO X none oNone := poImp po_none fun σ H Q ⟨F, ds, ms, P, R, S, h1, h2⟩ => h2 none ms F H h1 R Stp.refl
theorem pdo_some (h : PD X e de) : PDO X (some e) (oSome de) := poImp (po_some h) fun σ H Q ⟨F, ds, ms, P, R, S, h1, h2⟩ =>
  ⟨F, ds, ms, _, R, S, h1, fun d m v F1 H1 p1 R1 s1 r1 => by
    cases r1 with
    | int i => exact ⟨i, rfl, h2 _ m F1 H1 p1 R1 s1⟩
    | _ => exact p1.elim⟩
theorem DRs.cut {vs : List V} {xs : List D} (r : DRs K F vs xs) (l u : Option Int) : DRs K F (cutV vs l u) (cutL xs l u) := by
  unfold cutV cutL
  rw [r.length]
  exact (r.drop _).take _
def rSlD (K : PySem.W.Frag) : V → Option Int → Option Int → Hp → VK → Prop := fun x l u H Q => rSlL K x l u H Q ∨ (rSlS x l u H Q ∨ rSlA K x l u H Q)
theorem sl_D : SlR X (rSlD X.K) := sl_list.or (sl_str.or sl_tupA)
theorem pd_slice (he : PD X e de) (hl : PDO X lo tl) (hu : PDO X hi th) : PD X (.Subscript e (.Slice lo hi none p2) pos) (dSl de tl th) := peImp (pe_slice sl_D he hl hu) fun σ H Q ⟨F, ds, ms, P, R, S, h1, h2⟩ =>
  ⟨F, ds, ms, _, R, S, h1, fun x m1 v F1 H1 p1 R1 s1 r1 => ⟨F1, ds, m1, _, R1, S.mono s1.sub, p1, fun l m2 F2 H2 p2 R2 s2 => ⟨F2, ds, m2, _, R2, S.mono (s1.trans s2).sub, p2, fun u m3 F3 H3 p3 R3 s3 => by
    have s13 := (s1.trans s2).trans s3
    have r3 := (r1.mono s2.sub).mono s3.sub
    have lst : ∀ {xs : List D}, asL x m3 = some xs → P (.lst (cutL xs l u)) m3 → rSlD X.K v l u H3 Q := by
      intro xs e1 hp
      obtain ⟨a, ws, rfl, z1, z2⟩ := R3.asL r3 e1
      exact .inl ⟨a, ws, rfl, z1, fun p hp2 => h2 _ m3 _ _ _ hp (R3.new hp2) (s13.trans (Stp.new R3 hp2)) (R3.newLst hp2 (z2.cut l u))⟩
    cases r3 with
    | str z => exact .inr (.inl ⟨z, rfl, p3.1, h2 _ m3 _ F3 H3 p3.2 R3 s13 (.str _)⟩)
    | tup ha hs =>
      refine .inr (.inr ⟨_, _, rfl, R3.sub.sqT ha, fun e => ?_, fun _ p hp2 => h2 _ m3 _ _ _ p3 (R3.new hp2) (s13.trans (Stp.new R3 hp2)) (R3.newTup hp2 (hs.cut l u))⟩)
      have p3 : P (.tup (cutL _ l u)) m3 := p3
      unfold cutL at p3
      rw [hs.length] at e
      rw [e.1, e.2, List.drop_zero, Nat.sub_zero, List.take_length] at p3
      exact h2 _ m3 _ F3 H3 p3 R3 s13 (.tup ha hs)
    | lst ha hs => exact lst rfl p3
    | fro ha hs => exact lst rfl p3
    | opq _ =>
      unfold fSl at p3
      simp only at p3
      cases e1 : asL (.opq v) m3 with
      | none => rw [e1] at p3; exact p3.elim
      | some xs => rw [e1] at p3; exact lst e1 p3
    | _ => exact p3.elim⟩⟩⟩
end
end DL
namespace DL
open PySem PySem.Spec PyProof.Rows L2
theorem bnd_of {K : PySem.W.Frag} {x qual : Str} {st : Stmt} {f : Addr} {fd : FuncData} {ps ks : List Str} {n : Nat} {is : List Nat} (F : Fun K x qual st f fd)
    (h : ∀ (kV doc pm : Value) (an : Option Addr) (cdv ct : Value) (us ws : List Value), us.length = n → ws.length = ks.length →
      bindArgs (PySem.W.fnOf x qual (defArgs st) (defBody st) (defScope st) .none kV doc pm an cdv ct) ⟨us, ks.zip ws⟩ = pure (ps.zip (pick is (us ++ ws)))) : Bnd K fd ps n ks is := by
  obtain ⟨oc, od, kV, doc, pm, an, cdv, ct, osl, e, lk, hcd⟩ := F.ex
  subst e
  exact ⟨fun s us ws _ h1 h2 => .of_eq (h kV doc pm an cdv ct us ws h1 h2)⟩
/-- the law's call at the heap behind the top -/
theorem lawG {P : Program} {w : World} {K : PySem.W.Frag} {mg mb : Str → Option Value} {k : Nat} {fa a : Addr} {fd : FuncData} {x : Str} {sp : Sp} {s1 : Shared} {vs : List Value} {ns : List Int}
    (KX : K.In s1.heap) (hns : s1.heap.Ns mainGlobals mg) (hb : s1.heap.Ns builtinsNs mb) (hk1 : K.lookup sysModules = none) (hs1 : s1.heap.NoSeer)
    (hbb : ∀ x : Str, x ≠ "__name__" → mb x = bootBuiltins x) (hlim : s1.heap.NoLimit) (hg : s1.gens = #[])
    (ha : s1.heap.get? a = some { cls := .type "list", data := .seq vs.toArray })
    (hi : IntsAre vs ns) (hl : ns.length ≤ sizeLine) (hr : Room k callerA)
    (G : ∀ base : Heap, K.In base → base.Ns mainGlobals mg → FnG P w K mg base k fa fd [x] sp)
    (hbind : ∀ (s : Shared) (u : Value), BindsTo s fd ⟨[u], []⟩ [(x, u)])
    (hsp : ∀ H : Hp, OneR K H → SqL K H a (ns.map V.int) → sp [.ref a] H (fun v _ => v = .bl true) E0) :
    codeAny (model P w) callerA (.call (.ref fa) ⟨[.ref a], []⟩)
      (fun r s' => r = .ok (.ret (.bool true)) ∧ OldK s1.heap s'.heap ∧ s'.os = s1.os ∧ AllBare s'.gens) s1 := by
  have rv : Vals (ns.map V.int) vs := vals_ints hi
  have lenV := hi.length
  obtain ⟨mm, ⟨om, esm, epm, hom, hdm, _⟩, _⟩ := hs1.mods
  have a1 : a ≠ sysModules := fun z => by
    rw [z, hom] at ha
    cases ha
    cases hdm
  have core : ∀ H : Hp, (∀ b, H b = none ∨ ∃ o u, H b = some (.frz o u)) → OneR K H → SqL K H a (ns.map V.int) → HOk P w H s1.heap → (∀ b, H b ≠ none → b = a ∨ b = sysModules) → (H a ≠ none → K.lookup a = none) →
      codeAny (model P w) callerA (.call (.ref fa) ⟨[.ref a], []⟩)
        (fun r s' => r = .ok (.ret (.bool true)) ∧ OldK s1.heap s'.heap ∧ s'.os = s1.os ∧ AllBare s'.gens) s1 := by
    intro H hO h1 hS hok hA hK
    have noA : ∀ {b : Addr} {o : Obj} {es : Array DictEntry} {ep : Nat}, b ≠ sysModules → s1.heap.get? b = some o → o.data = .dict es ep → H b = none := by
      intro b o es ep hb e d
      cases q : H b with
      | none => rfl
      | some u =>
        have e' : b = a := (hA b (by rw [q]; exact nofun)).resolve_right hb
        rw [e', ha] at e
        cases e
        cases d
    have nsK : ∀ {b : Addr} {m : Str → Option Value}, b ≠ sysModules → s1.heap.Ns b m → (hidT s1.heap H).Ns b m := by
      rintro b m hb ⟨o, es, ep, e, d, r⟩
      exact ⟨o, es, ep, hidT_get e (noA hb e d), d, r⟩
    have hKb : K.In (hidT s1.heap H) := by
      intro b o e
      refine hidT_get (KX b o e) ?_
      cases q : H b with
      | none => rfl
      | some u =>
        have nq : H b ≠ none := by rw [q]; exact nofun
        rcases hA b nq with e' | e'
        · rw [e'] at e nq
          rw [hK nq] at e
          cases e
        · rw [e', hk1] at e
          cases e
    have hM : Mod K mg (hidT s1.heap H) := by
      obtain ⟨mc, h1, h2⟩ := hlim
      exact ⟨hKb, nsK (by decide) hns, ⟨mb, nsK (by decide) hb, hbb⟩, ⟨mc, nsK (by decide) h1, h2⟩⟩
    have e0 : Env0 P w K mg (hidT s1.heap H) callerA [] s1 H := by
      refine ⟨rfl, hM, fun b o e => of_hidT e, Nat.le_of_eq (hidT_size _ _), trivial, fun b hb => ?_, hok, .of_eq hg⟩
      cases hb
    have run := (G _ hKb (nsK (by decide) hns)).go callerA [] s1 H ⟨[.ref a], []⟩ [.ref a] [.ref a] _ ⟨hr, rfl⟩ e0 (hbind s1 (.ref a)) (.cons rfl .nil) (hsp H h1 hS)
    refine codeAny_mono run fun r s' h => ?_
    match r, h with
    | .error e, h => exact h.elim
    | .ok .next, h => exact False.elim h
    | .ok .brk, h => exact False.elim h
    | .ok .cont, h => exact False.elim h
    | .ok (.ret u), h =>
      obtain ⟨v, H', os, bare, un, hok', r', q⟩ := h
      have q' : v = .bl true := q
      subst q'
      have r2 : u = Value.bool true := r'
      subst r2
      refine ⟨rfl, OldK.of_keep fun b o e => ?_, os, bare⟩
      cases q : H b with
      | none => exact un.keep b o e q (fun z => by cases z) (fun z => by cases z)
      | some u =>
        rcases hO b with z | ⟨ob, xs, z⟩
        · rw [q] at z; cases z
        · obtain ⟨e1, _⟩ := hok b _ z
          obtain ⟨e2, _⟩ := hok' b _ (un.frzs b ob _ z)
          rw [e] at e1
          cases e1
          exact e2
  have o1 : ∀ H : Hp, H sysModules = some (.frz om (.ext fun h => h.get? sysModules = some om)) → ObjOk P w H s1.heap sysModules (.frz om (.ext fun h => h.get? sysModules = some om)) := fun H _ =>
    ⟨hom, hom, ⟨om, hom⟩, fun h1 h2 z k => k _ z⟩
  cases hk : K.lookup a with
  | some o =>
    have e := KX a o hk
    rw [ha] at e
    cases e
    have hH : ∀ b u, (if b = sysModules then some (HO.frz om (.ext fun h => h.get? sysModules = some om)) else none) = some u → b = sysModules ∧ u = HO.frz om (.ext fun h => h.get? sysModules = some om) := by
      intro b u z
      by_cases hb : b = sysModules
      · rw [if_pos hb] at z; cases z; exact ⟨hb, rfl⟩
      · rw [if_neg hb] at z; cases z
    refine core (fun b => if b = sysModules then some (.frz om (.ext fun h => h.get? sysModules = some om)) else none) (fun b => ?_) ⟨hk1, om, _, if_pos rfl⟩ (.inr ⟨_, vs.toArray, _, hk, rfl, rfl, rfl, ?_, ?_⟩) (fun b u z => ?_) (fun b z => ?_) fun z => absurd (if_neg a1) z
    · by_cases hb : b = sysModules
      · exact .inr ⟨_, _, if_pos hb⟩
      · exact .inl (if_neg hb)
    · rw [List.size_toArray, lenV]; exact hl
    · rw [List.toList_toArray]; exact rv
    · obtain ⟨rfl, rfl⟩ := hH b u z
      exact o1 _ (if_pos rfl)
    · cases q : (if b = sysModules then some (HO.frz om (.ext fun h => h.get? sysModules = some om)) else none) with
      | none => exact absurd q z
      | some u => exact .inr (hH b u q).1
  | none =>
    have hH : ∀ b u, (if b = a then some (HO.frz { cls := .type "list", data := .seq vs.toArray } (.lst (ns.map V.int))) else if b = sysModules then some (HO.frz om (.ext fun h => h.get? sysModules = some om)) else none) = some u →
        (b = a ∧ u = HO.frz { cls := .type "list", data := .seq vs.toArray } (.lst (ns.map V.int))) ∨ (b = sysModules ∧ u = HO.frz om (.ext fun h => h.get? sysModules = some om)) := by
      intro b u z
      by_cases hb : b = a
      · rw [if_pos hb] at z; cases z; exact .inl ⟨hb, rfl⟩
      · rw [if_neg hb] at z
        by_cases hb2 : b = sysModules
        · rw [if_pos hb2] at z; cases z; exact .inr ⟨hb2, rfl⟩
        · rw [if_neg hb2] at z; cases z
    refine core (fun b => if b = a then some (.frz { cls := .type "list", data := .seq vs.toArray } (.lst (ns.map V.int))) else if b = sysModules then some (.frz om (.ext fun h => h.get? sysModules = some om)) else none) (fun b => ?_) ⟨hk1, om, _, (if_neg a1.symm).trans (if_pos rfl)⟩ (.inl (.inr ⟨_, if_pos rfl⟩)) (fun b u z => ?_) (fun b z => ?_) fun _ => hk
    · by_cases hb : b = a
      · exact .inr ⟨_, _, if_pos hb⟩
      · by_cases hb2 : b = sysModules
        · exact .inr ⟨_, _, (if_neg hb).trans (if_pos hb2)⟩
        · exact .inl ((if_neg hb).trans (if_neg hb2))
    · rcases hH b u z with ⟨rfl, rfl⟩ | ⟨rfl, rfl⟩
      · refine ⟨ha, ?_, vs, _, rv, ha⟩
        rw [List.length_map]; exact hl
      · exact o1 _ z
    · cases q : (if b = a then some (HO.frz { cls := .type "list", data := .seq vs.toArray } (.lst (ns.map V.int))) else if b = sysModules then some (HO.frz om (.ext fun h => h.get? sysModules = some om)) else none) with
      | none => exact absurd q z
      | some u => exact (hH b u q).imp (·.1) (·.1)
/-- what the head leaves, from the law's promise -/
theorem walkG {l : PySem.W.OpenLaw} {n k : Nat} {q : Program} {loose : List Str} {XP : (Str → Option Value) → Heap → Prop} {YP : World → Heap → Prop} {d : DefRec} {K : Params → PySem.W.Frag} {fs : FS} {x : Str}
    (hn : l.most = some n) (hn2 : n ≤ sizeLine) (hdf : d.params.defaults = []) (hr : Room k callerA) (hq : importsNone q = true) (hK1 : ∀ p : Params, (K p).lookup sysModules = none)
    (hY : ∀ (w : World) (h : Heap), YP w h → (K w.params).In h)
    (G : ∀ (w : World) (mg : Str → Option Value) (fa : Addr) (h : Heap), (K w.params).In h → h.Ns mainGlobals mg → mg d.name = some (.ref fa) →
      ∃ fd : FuncData, (∀ (s : Shared) (u : Value), BindsTo s fd ⟨[u], []⟩ [(x, u)]) ∧
        ∀ base : Heap, (K w.params).In base → base.Ns mainGlobals mg → FnG l.prog w (K w.params) mg base k fa fd [x] (spD (K w.params) fs))
    (hsp : ∀ ns : List Int, ns.length ≤ n → fs [.fro (ns.map D.int)] [] (fun v _ => v = .bl true)) :
    PySem.W.WalkO q loose XP YP l.row.toRowW d [] (fun f vs => PySem.call f vs) := by
  refine Att.attach_call hn hdf ?_
  intro w s0 s1 mg mb fa o pm cd doc a vs ns Gr Y ho hd hcd hmg hobj hints hlen hg
  have KX := hY w _ Y
  obtain ⟨fd, hb, hF⟩ := G w mg fa _ KX Gr.T.g hmg
  refine lawG KX Gr.T.g Gr.T.b (hK1 _) (Gr.T.seer hq) Gr.T.builtins Gr.T.nolimit hg hobj hints (Nat.le_trans hlen hn2) hr hF hb fun H h1 hS => ?_
  refine ⟨H, [.fro (ns.map D.int)], [], _, ⟨Sub.refl H, fun p hp => (by cases hp), List.nodup_nil, h1⟩, .cons (.fro hS (DRs.ints ns)) .nil, hsp ns hlen, ?_⟩
  intro e m v F' H' z R s r
  subst z
  cases r
  rfl
end DL
namespace DL
open PySem PySem.Spec PyProof.Rows L2
abbrev ZK := Str → List Str → List D → MS → Prop
abbrev FX := List D → MS → (D → MS → Prop) → ZK → Prop
def spX (K : PySem.W.Frag) (fs : FX) : Sp := fun vs H Q E => ∃ F ds ms P Z, Rel K F H ms ∧ DRs K F vs ds ∧ fs ds ms P Z ∧
  (∀ d ms' v F' H', P d ms' → Rel K F' H' ms' → Stp F H ms F' H' ms' → DR K F' v d → Q v H') ∧
  (∀ c ns xs ms' cv d ws F' H', Z c ns xs ms' → Rel K F' H' ms' → Stp F H ms F' H' ms' → PySem.W.nsIn K mainGlobals c = some (some cv) → XD F' d ns ws → DRs K F' ws xs → E cv d H')
structure FnX (P : Program) (w : World) (K : PySem.W.Frag) (mg : Str → Option Value) (base : Heap) (k : Nat) (f : Addr) (fd : FuncData) (ps : List Str) (sp : Sp) : Prop where
  len : ∀ vs H Q E, sp vs H Q E → vs.length = ps.length
  go : ∀ (A : Around) (outer : List Env) (s : Shared) (H : Hp) (args : Args) (us : List Value) (vs : List V) (Q : VK) (E : XK), RoomG k A → Env0 P w K mg base A outer s H →
    BindsTo s fd args (ps.zip us) → Vals vs us → sp vs H Q E → codeAny (model P w) A (.call (.ref f) args) (CR (L2.CX P w) outer P w H s Q E) s
/-- where nothing is raised -/
theorem FnX.plain {P : Program} {w : World} {K : PySem.W.Frag} {mg : Str → Option Value} {base : Heap} {k : Nat} {f : Addr} {fd : FuncData} {ps : List Str} {fx : FX} {fs : FS}
    (F : FnX P w K mg base k f fd ps (spX K fx)) (h : ∀ ds ms P, fs ds ms P → fx ds ms P fun _ _ _ _ => False) : FnG P w K mg base k f fd ps (spD K fs) := by
  have hc : ∀ vs H Q E, spD K fs vs H Q E → spX K fx vs H Q E0 := fun vs H Q E ⟨F0, ds, ms, P0, R, r, q, z⟩ => ⟨F0, ds, ms, P0, _, R, r, h _ _ _ q, z, fun _ _ _ _ _ _ _ _ _ y => y.elim⟩
  refine ⟨fun vs H Q E q => F.len vs H Q E0 (hc vs H Q E q), fun A outer s H args us vs Q hr e0 hb r q => ?_⟩
  refine codeAny_mono (F.go A outer s H args us vs Q E0 hr e0 hb r (hc vs H Q E0 q)) fun r s' z => ?_
  match r, z with
  | .ok (.ret _), z => exact z
  | .ok .next, z => exact z
  | .ok .brk, z => exact z
  | .ok .cont, z => exact z
  | .error e, z =>
    obtain ⟨_, _, _, _, _, _, _, _, _, _, _, _, y⟩ := z
    exact y.elim
def liftX (K : PySem.W.Frag) (W : WX) (t : DTS) : TS := fun D σ H => ∃ F ds ms E, Rel K F H ms ∧ Sl K F σ ds ∧ t E ds ms ∧
  (∀ ds' ms' σ' F' H', E.nx ds' ms' → Rel K F' H' ms' → Stp F H ms F' H' ms' → Sl K F' σ' ds' → D.nx σ' H') ∧
  (∀ d ms' v F' H', E.rt d ms' → Rel K F' H' ms' → Stp F H ms F' H' ms' → DR K F' v d → D.rt v H') ∧
  (∀ ds' ms' σ' F' H', E.bk ds' ms' → Rel K F' H' ms' → Stp F H ms F' H' ms' → Sl K F' σ' ds' → D.bk σ' H') ∧
  (∀ ds' ms' σ' F' H', E.ct ds' ms' → Rel K F' H' ms' → Stp F H ms F' H' ms' → Sl K F' σ' ds' → D.ct σ' H') ∧
  (∀ c ns xs ds' ms' cv d ws σ' F' H', E.ex c ns xs ds' ms' → Rel K F' H' ms' → Stp F H ms F' H' ms' → Sl K F' σ' ds' → PySem.W.nsIn K mainGlobals c = some (some cv) → XD F' d ns ws → DRs K F' ws xs → W cv d σ' H')
abbrev PX (X : Cx) (W : WX) (st : Stmt) (t : DTS) : Prop := PS X st (liftX X.K W t)
abbrev PXs (X : Cx) (W : WX) (st : List Stmt) (t : DTS) : Prop := PSs X st (liftX X.K W t)
section
variable {X : Cx} {W : WX} {st : Stmt} {rest : List Stmt} {t u : DTS} {c : Expr} {dt : DT} {pos : Pos}
/-- a statement that raises nothing -/
theorem px_of (h : PDS X st t) : PX X W st t := psImp h fun D σ H ⟨F, ds, ms, E, R, S, h, n, r, k, q, _⟩ => ⟨F, ds, ms, E, R, S, h, n, r, k, q⟩
theorem px_nil : PXs X W [] dNext := pssImp pss_nil fun D σ H ⟨F, ds, ms, E, R, S, h, n, _⟩ => n ds ms σ F H h R Stp.refl S
theorem liftX_seq {K : PySem.W.Frag} : ∀ D σ H, liftX K W (dSeq t u) D σ H → tSeq (liftX K W t) (liftX K W u) D σ H := fun D σ H ⟨F, ds, ms, E, R, S, h, n, r, k, q, x⟩ =>
  ⟨F, ds, ms, { E with nx := u E }, R, S, h, fun ds1 m1 σ1 F1 H1 h1 R1 s1 S1 => ⟨F1, ds1, m1, E, R1, S1, h1,
    fun ds2 m2 σ2 F2 H2 h2 R2 s2 S2 => n ds2 m2 σ2 F2 H2 h2 R2 (s1.trans s2) S2, fun d m2 v F2 H2 h2 R2 s2 r2 => r d m2 v F2 H2 h2 R2 (s1.trans s2) r2,
    fun ds2 m2 σ2 F2 H2 h2 R2 s2 S2 => k ds2 m2 σ2 F2 H2 h2 R2 (s1.trans s2) S2, fun ds2 m2 σ2 F2 H2 h2 R2 s2 S2 => q ds2 m2 σ2 F2 H2 h2 R2 (s1.trans s2) S2,
    fun c ns xs ds2 m2 cv d ws σ2 F2 H2 h2 R2 s2 S2 => x c ns xs ds2 m2 cv d ws σ2 F2 H2 h2 R2 (s1.trans s2) S2⟩, r, k, q, x⟩
theorem px_cons (h1 : PX X W st t) (h2 : PXs X W rest u) : PXs X W (st :: rest) (dSeq t u) := pssImp (pss_cons h1 h2) liftX_seq
theorem px_one (h1 : PX X W st t) : PXs X W [st] t := pss_one h1
theorem px_if {x y : List Stmt} (hc : PDT X c dt) (ha : PXs X W x t) (hb : PXs X W y u) : PX X W (.If c x y pos) (dIfS dt t u) := psImp (ps_if hc ha hb) fun D σ H ⟨F, ds, ms, E, R, S, h, n, r, k, q, x⟩ =>
  ⟨F, ds, ms, _, R, S, h, fun b m F1 H1 p1 R1 s1 => by
    have mk : ∀ {w : DTS}, w E ds m → liftX X.K W w D σ H1 := fun {w} hw => ⟨F1, ds, m, E, R1, S.mono s1.sub, hw,
      fun ds2 m2 σ2 F2 H2 h2 R2 s2 S2 => n ds2 m2 σ2 F2 H2 h2 R2 (s1.trans s2) S2, fun d m2 v F2 H2 h2 R2 s2 r2 => r d m2 v F2 H2 h2 R2 (s1.trans s2) r2,
      fun ds2 m2 σ2 F2 H2 h2 R2 s2 S2 => k ds2 m2 σ2 F2 H2 h2 R2 (s1.trans s2) S2, fun ds2 m2 σ2 F2 H2 h2 R2 s2 S2 => q ds2 m2 σ2 F2 H2 h2 R2 (s1.trans s2) S2,
      fun c ns xs ds2 m2 cv d ws σ2 F2 H2 h2 R2 s2 S2 => x c ns xs ds2 m2 cv d ws σ2 F2 H2 h2 R2 (s1.trans s2) S2⟩
    cases b with
    | true => exact mk p1
    | false => exact mk p1⟩
/-- raise X('..'), X an own class without an __init__ -/
def dRaise (c : Str) : DTS := fun E ds ms => E.ex c [] [] ds ms
theorem px_raise {C : Addr} {bmB : List Value} {B newId initId : String} {x m : Str} {j : Nat} {p p2 pos pos' : Pos} (hc : X.calm = true) (tk : Takes X W) (F : ExcBaseFacts B newId initId bmB) (q : PySem.W.excIn X.K C bmB newId = true) (gC : X.mg x = some (.ref C)) (kC : PySem.W.keepIn X.K (.ref C) = true)
    (r : Raises X (.ref C)) (hg : Gl X x) (hn : PySem.W.nsIn X.K mainGlobals x = some (some (.ref C))) (hdb : (x == ("__debug__" : Str)) = false := by decide) :
    PX X W (.Raise (some (.Call (.Name x p) [.Constant (.str m) j p2] [] pos)) none pos') (dRaise x) :=
  psImp (ps_raise hc tk (pmk_own F q gC kC r hg hdb)) fun D σ H ⟨F0, ds, ms, E, R, S, h, _, _, _, _, z⟩ => z x [] [] ds ms _ none [] σ F0 H h R Stp.refl S hn (.inl ⟨rfl, rfl, rfl⟩) .nil
end
section
variable {X : Cx} {W : WX} {k n : Nat} {f : Addr} {fd : FuncData} {ps ks : List Str} {is : List Nat} {sp : Sp} {fx : FX} {x : Str} {p pos kpos : Pos} {e : Expr} {es : List Expr} {aa : DA}
/-- f(..) as a statement -/
def dDoX (n : Nat) (is : List Nat) (fx : FX) (aa : DA) : DTS := fun E ds ms => aa ds ms fun xs m => xs.length = n ∧ fx (pick is xs) m (fun _ m' => E.nx ds m') fun c ns ys m' => E.ex c ns ys ds m'
end
end DL
namespace DL
open PySem PySem.Spec PyProof.Rows L2
theorem fnX_of {P : Program} {w : World} {K : PySem.W.Frag} {mg : Str → Option Value} {base : Heap} {k : Nat} {f : Addr} {fd : FuncData} {x qual : Str} {st : Stmt} {N ps : List Str} {fx : FX} {t : DTS}
    (F : Fun K x qual st f fd) (S : FnScope N ps (defScope st)) (len : ∀ ds ms Q Z, fx ds ms Q Z → ds.length = ps.length)
    (body : ∀ (cdv : Value) (A : Around) (outer : List Env) (s : Shared) (H : Hp) (E : XK), RoomG k (A.deeper (envOfC qual (defScope st) s.heap.objs.size f cdv)) →
      ∀ W : WX, Takes (cxOf (L2.CX P w) P w K mg base N qual (defScope st) f cdv A outer s H E) W → PXs (cxOf (L2.CX P w) P w K mg base N qual (defScope st) f cdv A outer s H E) W (defBody st) t)
    (sem : ∀ ds ms Q Z, fx ds ms Q Z → t { nx := fun _ m => Q .non m, rt := Q, ex := fun c ns xs _ m => Z c ns xs m } (startD N.length ds) ms) : FnX P w K mg base (k + 1) f fd ps (spX K fx) := by
  have hlen : ∀ vs H Q E, spX K fx vs H Q E → vs.length = ps.length := by
    rintro vs H Q E ⟨F0, ds, ms, P0, Z, R, r, h, _⟩
    rw [r.length]
    exact len ds ms P0 Z h
  refine ⟨hlen, ?_⟩
  intro A outer s H args us vs Q E hr e0 hb r hsp
  obtain ⟨oc, od, kV, doc, pm, an, cdv, ct, osl, rfl, lk, hcd⟩ := F.ex
  have hl := hlen _ _ _ _ hsp
  have KX : K.In s.heap := e0.mod.kin.keeps fun b o e => (e0.bs b o e).1
  have lim : s.heap.NoLimit := e0.mod.nolimit.keeps fun b o e => (e0.bs b o e).1
  have hkind : ∀ y ∈ ps.zip us, (defScope st).names.lookup y.1 = some .local ∨ ((defScope st).names.lookup y.1 = some .cell ∧
      ((cellsFrom (s.heap.objs.size + 1) (defScope st).names []).lookup y.1).isSome = true) := by
    rintro ⟨n, v⟩ hy
    exact (S.par n (List.of_mem_zip hy).1).imp id fun q => ⟨q, PySem.W.cellsFrom_some _ _ _ (.inl q)⟩
  have hr2 : RoomG k (A.deeper (envOfC qual (defScope st) s.heap.objs.size f cdv)) := ⟨hr.r.deeper _, hr.g⟩
  refine codeAny_call_function hr.r.depth (KX _ _ lk) rfl S.co S.gen rfl (PySem.W.codeRec_of KX hcd) (hb _ _ _ _ ?_)
  refine wpAny_newFunctionEnv_cells S.kind hkind fun env he s1 x1 => ?_
  subst he
  refine ⟨lim.keeps x1.toInCall.keep, codeAny_func ?_⟩
  have I : Inv (cxOf (L2.CX P w) P w K mg base N qual (defScope st) f cdv A outer s H E) [] (L2.start N vs) H s1 := inv_start S hr.r.hd e0 hl r x1
  have tk : Takes (cxOf (L2.CX P w) P w K mg base N qual (defScope st) f cdv A outer s H E) fun cls d _ H' => E cls d H' := takes_of rfl rfl rfl rfl
  have hq : liftX K (fun cls d _ H' => E cls d H') t { nx := fun _ H' => Q .non H', rt := Q } (L2.start N vs) H := by
    obtain ⟨F0, ds, ms, P0, Z, R, rd, h, q, z⟩ := hsp
    refine ⟨F0, startD N.length ds, ms, _, R, sl_start rd (by rw [hl, ← S.pre]; exact List.length_take_le' _ _), sem ds ms P0 Z h, ?_, ?_, ?_, ?_, ?_⟩
    · exact fun ds' ms' σ' F' H' y R' s' S' => q .non ms' .non F' H' y R' s' .non
    · exact fun d ms' v F' H' y R' s' r' => q d ms' v F' H' y R' s' r'
    · exact fun _ _ _ _ _ y _ _ _ => y.elim
    · exact fun _ _ _ _ _ y _ _ _ => y.elim
    · exact fun c ns xs ds' ms' cv d ws σ' F' H' y R' s' S' hn hx hd => z c ns xs ms' cv d ws F' H' y R' s' hn hx hd
  refine wpAny_mono ((body cdv A outer s H E hr2 _ tk).run [] s1 (L2.start N vs) H _ I hq) (fun fl s' hs => ?_) fun e s' hs => hs
  match fl, hs with
  | .ret u, hs =>
    obtain ⟨v, σ', H', J, rv, q⟩ := hs
    exact ⟨v, H', J.os, J.bare, J.base, J.hok, rv, q⟩
  | .next, hs =>
    obtain ⟨σ', H', J, q⟩ := hs
    exact ⟨V.non, H', J.os, J.bare, J.base, J.hok, rfl, q⟩
  | .brk, hs => obtain ⟨_, _, _, q⟩ := hs; exact False.elim q
  | .cont, hs => obtain ⟨_, _, _, q⟩ := hs; exact False.elim q
section
variable {X : Cx} {pins : List (Addr × Obj)} {σ σ0 : L2.St} {H H0 : Hp} {s s0 : Shared}
theorem track {a : Addr} {oe : Obj} {fv : Array Value} {cv : Value} {d : Option Addr} (I : Inv X pins σ H s) (J : Inv X pins σ0 H0 s0) (hex : X.ex = []) (n0 : s0.heap.get? a = none) (na : H a = none) (ha : s.heap.get? a = some oe) (hz : Zc cv d oe) (hd : oe.data = .fields fv) :
    Inv X pins σ (upd H a (ExH cv d a)) s := by
  have apart : ∀ b, (∃ o, s0.heap.get? b = some o) → b ≠ a := fun b ⟨o, e⟩ z => by rw [z, n0] at e; cases e
  have first : ∀ b o, X.s_0.heap.get? b = some o → b ≠ a := fun b o e => apart b (J.base.there b o e (by rw [hex]; exact nofun))
  have told : ∀ {b o}, H b = some o → b ≠ a := fun {b o} e => ne_of_none e na
  refine ⟨I.ok, I.os, I.bare, ⟨I.base.keep, I.base.slot, fun b o e1 e2 e3 => ?_, I.base.there, fun b xs e => ?_, fun b o xs e => ?_, fun b ts e => ?_⟩, I.loc, I.cell, ?_, fun x c e => ?_, fun p hp => ?_, fun b o e => ?_, I.len⟩
  · rw [upd_ne (first b o e1)]; exact I.base.free b o e1 e2 e3
  · have z := I.base.tups b xs e
    rw [upd_ne (told z)]; exact z
  · have z := I.base.frzs b o xs e
    rw [upd_ne (told z)]; exact z
  · obtain ⟨m, z⟩ := I.base.tbls b ts e
    exact ⟨m, by rw [upd_ne (told z)]; exact z⟩
  · obtain ⟨m, ⟨o, _, _, e, _⟩, _⟩ := J.loc
    rw [upd_ne (apart _ ⟨o, e⟩)]; exact I.free
  · obtain ⟨v, o, e', _⟩ := J.cell x c e
    rw [upd_ne (apart c ⟨o, e'⟩)]; exact I.freeC x c e
  · obtain ⟨e1, e2, e3, e4, e5⟩ := I.pin p hp
    exact ⟨e1, by rw [upd_ne (apart _ ⟨_, (J.pin p hp).1⟩)]; exact e2, e3, e4, e5⟩
  · by_cases hb : b = a
    · subst hb
      rw [upd_same] at e
      cases e
      exact ⟨⟨oe, fv, ha, hz, hd⟩, ⟨oe, ha⟩, fun _ _ ⟨o, v, q, r⟩ k => ⟨o, v, k o q, r⟩⟩
    · rw [upd_ne hb] at e
      exact (I.hok b o e).stay (fun _ _ _ q => q) (fun c q => by rw [upd_ne (told q)]; exact q) fun c xs q => by rw [upd_ne (told q)]; exact q
end
/-- what the clause wishes of an exception: slot i is the clause's name, slot j the name under which it is kept -/
def wKeep (K : PySem.W.Frag) (c : Value) (i j : Nat) (Wout : WX) (D : Ends) : WX := fun cv d σ H => ∃ b, PySem.W.exmOne K cv c = some b ∧
  (b = true → ∀ a, H a = none → D.nx (((σ.set i (some (V.ref a))).set j (some (V.ref a))).set i none) (upd H a (ExH cv d a))) ∧ (b = false → Wout cv d σ H)
section
variable {X : Cx} {x n : Str} {c : Value} {i j : Nat} {body : List Stmt} {sv : Stmt} {np pos pos' : Pos} {tb : WX → TS} {Wout : WX}
theorem ps_tryKeep (hs : X.stack = X.env :: X.outer) (hf : X.env.frame = some X.env.locals) (hex : X.ex = []) (hN : X.N.Nodup) (hi : X.N[i]? = some n) (hln : X.env.kindOf n = some .local) (hc : Names X x c) (tk : Takes X Wout)
    (hb : ∀ (W : WX) (q : List (Addr × Obj)) (xe : Value → Shared → Prop), Takes (X.tr q xe) W → PassesOwn (model X.prog X.w) X.A X.env xe → PSs (X.tr q xe) body (tb W))
    (hsv : ∀ (a : Addr) (q : List (Addr × Obj)), PSs (X.suite a q) [sv] (tAsg (tVar i) (gName j))) :
    PS X (.Try body [.ExceptHandler (some (.Name x np)) (some n) [sv] pos'] [] [] pos) (fun D σ H => tb (wKeep X.K c i j Wout D) D σ H) := by
  refine ⟨fun pins s σ H D I h => wpAny_Try_except ?_⟩
  have ok := I.ok
  have fr : X.A.frames = some (X.env :: X.outer) := ok.frames.trans (congrArg some hs)
  have caught : Takes (X.tr (X.pn ++ pins) fun v t1 => wpAny (model X.prog X.w) X.A (noteFrame v X.env)
      (fun _ t2 => wpAny (model X.prog X.w) X.A (setFlight v none) (fun _ t3 => wpAny (model X.prog X.w) X.A (handleBy v X.env [.ExceptHandler (some (.Name x np)) (some n) [sv] pos']) (SP X pins D) X.xe t3) X.xe t2) X.xe t1) (wKeep X.K c i j Wout D) := by
    rintro v t ⟨a, B, t0, pins0, τ, G, cv, d, rfl, J0, low, up, sky, na, ho, hg, b, hm, yes, no⟩
    have J : Inv X pins τ G t0 := J0.ofTry ok
    rw [show (X.tr (X.pn ++ pins) _).stack = X.env :: X.outer from hs] at sky
    refine Sky.land Zc.steady fr hf sky fun g1 fly u1 => ?_
    have J1 : Inv X pins τ G { t with heap := g1 } := J.landed low fly.1 (up.trans u1) ho hg
    obtain ⟨o1, f1, ha1, hz1, hd1⟩ := fly.there
    have off : a ∉ frs (X.env :: X.outer) := fun hm => by
      obtain ⟨_, o2, ha2, nf⟩ := fly.2.2.1.mem hm
      cases ha1.symm.trans ha2
      exact nf _ hd1
    have offL : a ≠ X.env.locals := fun z => off (List.mem_filterMap.mpr ⟨X.env, List.mem_cons_self, hf.trans (congrArg some z.symm)⟩)
    have offF : a ∉ X.fs := fun hm => by
      obtain ⟨e1, h1, h2⟩ := List.mem_filterMap.mp hm
      exact off (List.mem_filterMap.mpr ⟨e1, List.mem_cons_of_mem _ h1, h2⟩)
    have n0 : t0.heap.get? a = none := by
      cases e : t0.heap.get? a with
      | none => rfl
      | some o =>
        have z := low a o e (by rw [show (X.tr (X.pn ++ pins) _).stack = X.env :: X.outer from hs]; exact off)
        rw [fly.2.1] at z
        cases z
    have S1 := J1.suite ha1 hd1 na offL offF
    have ty : PySem.W.Looks (model X.prog X.w) g1 (typeOf (.ref a)) cv := fun _ _ _ _ k q => wpAny_typeOf_ref (k _ _ ha1) (by rw [hz1.1]; exact q)
    refine wpAny_handleBy_cons (codeAny_handlers_test ?_) (fun q => nomatch q)
    have name : ∀ {Q E : Value → Shared → Prop}, Q c { t with heap := g1 } → wpAny (model X.prog X.w) (X.A.mark (some (.ref a))) (eval (.Name x np) X.env) Q E { t with heap := g1 } := by
      intro Q E q
      rcases hc with ⟨h1, h2, h3 | ⟨h3, h4, h5⟩⟩
      · exact ld_glob S1 h1 h3 q h2
      · exact ld_blt S1 h1 h3 h4 q h5 h2
    refine name ((PySem.W.exm_one J1.kIn ty hm).here ?_)
    cases b with
    | true =>
      refine codeAny_handlers_suite_as (HandSPX.lands_againZ fly fun g2 fly2 u2 => ?_)
      have J2 : Inv X pins τ G { t with heap := g2 } := J.landed low fly2.1 ((up.trans u1).trans u2) ho hg
      obtain ⟨o2, f2, ha2, hz2, hd2⟩ := fly2.there
      refine store_ok (X := X.suite a ((a, o2) :: (X.pn ++ pins))) (v := V.ref a) (J2.suite ha2 hd2 na offL offF) hN hi (.inl hln) rfl (fun t5 S5 => ?_) (.inr hln)
      have lt : i < τ.length := by
        have := J2.len
        have := (List.getElem?_eq_some_iff.mp hi).1
        omega
      have rd : tAsg (tVar i) (gName j) { nx := fun σ6 H6 => H6 = G ∧ σ6 = (τ.set i (some (V.ref a))).set j (some (V.ref a)), rt := fun _ _ => False } (τ.set i (some (V.ref a))) G := ⟨V.ref a, List.getElem?_set_self lt, rfl, rfl⟩
      refine wpAny_mono ((hsv a _).run [] t5 _ G _ S5 rd) (fun fl t6 z => ?_) fun _ _ z => z.elim
      match fl, z with
      | .next, ⟨σ6, H6, S6, e6, e7⟩ =>
        subst e6 e7
        obtain ⟨ha6, _⟩ := S6.pin (a, o2) (List.mem_append_left _ List.mem_cons_self)
        have T6 := track (S6.unsuite ok) J hex n0 na ha6 hz2 hd2
        exact gone_ok T6 hN hi hln fun t7 J7 => ⟨_, _, J7, yes rfl a na⟩
      | .brk, ⟨_, _, _, z⟩ => exact z.elim
      | .cont, ⟨_, _, _, z⟩ => exact z.elim
      | .ret _, ⟨_, _, _, _, _, z⟩ => exact z.elim
    | false =>
      refine wpAny_handleBy_nil ?_
      obtain ⟨_, _, _, o3, f3, T, _, _, ha3, _, hd3, h13, _⟩ := id fly
      unfold PySem.passOn
      refine wpAny_bind (wpAny_field ha3 hd3 h13 ?_)
      rw [if_neg (by simp)]
      have last : wpAny (model X.prog X.w) X.A (setFlight (.ref a) X.env.frame) (fun _ t4 => wpAny (model X.prog X.w) X.A (throw (.ref a) : Sem Flow) (SP X pins D) X.xe t4) X.xe { t with heap := g1 } := by
        rw [hf]
        exact HandSPX.setFlight_upZ fly fun g4 held u4 => wpAny_throw (tk _ _ ⟨a, B, t0, pins, τ, G, cv, d, rfl, J, low, (up.trans u1).trans u4, .inr (.inr (hs ▸ held)), na, ho, hg, no rfl⟩)
      first
        | exact wpAny_bind (wpAny_pure (wpAny_bind last))
        | exact wpAny_bind last
  refine wpAny_mono ((hb _ _ _ caught PassesOwn.looking).run [] s σ H D (I.toTry _) h) (fun fl t1 z => ?_) fun _ _ z => z
  match fl, z with
  | .next, ⟨σ1, H1, J1, q⟩ => exact wpAny_execs_nil ⟨σ1, H1, J1.ofTry ok, q⟩
  | .brk, ⟨σ1, H1, J1, q⟩ => exact ⟨σ1, H1, J1.ofTry ok, q⟩
  | .cont, ⟨σ1, H1, J1, q⟩ => exact ⟨σ1, H1, J1.ofTry ok, q⟩
  | .ret _, ⟨v1, σ1, H1, J1, r, q⟩ => exact ⟨v1, σ1, H1, J1.ofTry ok, r, q⟩
end
end DL
namespace DL
open PySem PySem.Spec PyProof.Rows L2
theorem Sl.off {K : PySem.W.Frag} {F : Hp} {o : Option V} : ∀ {σ : L2.St} {ds : DS} (i : Nat), Sl K F σ ds → Sl K F (σ.set i o) (ds.set i none)
  | _, _, i, .nil => by cases i <;> exact .nil
  | _, _, 0, .sm _ r => .nn r
  | _, _, 0, .nn r => .nn r
  | _, _, i + 1, .sm q r => .sm q (Sl.off i r)
  | _, _, i + 1, .nn r => .nn (Sl.off i r)
/-- try: body, except x as n: y = n; ml: of each class that may come whether the clause takes it -/
def dTry (ml : List (Str × Bool)) (i j : Nat) (tb : DTS) : DTS := fun E ds ms => tb { E with ex := fun c ns xs ds' ms' => match ml.lookup c with
  | some true => E.nx ((setSlot ds' j (.exc c ns xs)).set i none) ms'
  | some false => E.ex c ns xs ds' ms'
  | none => False } ds ms
def dTry0 (ml : List (Str × Bool)) (i j : Nat) (tb : DTS) : DTS := fun E ds ms => dTry ml i j tb { E with ex := fun _ _ _ _ _ => False } ds ms
section
variable {X : Cx} {x n : Str} {cl : Value} {i j : Nat} {body : List Stmt} {sv : Stmt} {np pos pos' : Pos} {tb : DTS} {W : WX} {ml : List (Str × Bool)}
theorem px_try (hc : Names X x cl) (hml : ∀ c b cv, ml.lookup c = some b → PySem.W.nsIn X.K mainGlobals c = some (some cv) → PySem.W.exmOne X.K cv cl = some b) (tk : Takes X W)
    (hb : ∀ (W : WX) (q : List (Addr × Obj)) (xe : Value → Shared → Prop), Takes (X.tr q xe) W → PassesOwn (model X.prog X.w) X.A X.env xe → PXs (X.tr q xe) W body tb)
    (hsv : ∀ (a : Addr) (q : List (Addr × Obj)), PSs (X.suite a q) [sv] (tAsg (tVar i) (gName j))) (hN : X.N.Nodup) (hi : X.N[i]? = some n) (hln : X.env.kindOf n = some .local) (hij : i ≠ j)
    (hs : X.stack = X.env :: X.outer := by rfl) (hf : X.env.frame = some X.env.locals := by rfl) (hex : X.ex = [] := by rfl) :
    PX X W (.Try body [.ExceptHandler (some (.Name x np)) (some n) [sv] pos'] [] [] pos) (dTry ml i j tb) :=
  psImp (ps_tryKeep (tb := fun W => liftX X.K W tb) hs hf hex hN hi hln hc tk hb hsv) fun D σ H ⟨F, ds, ms, E, R, S, h, n1, r1, k1, q1, x1⟩ =>
    ⟨F, ds, ms, _, R, S, h, n1, r1, k1, q1, fun c ns xs ds1 m1 cv d ws σ1 F1 H1 h1 R1 s1 S1 hn hx hd => by
      have h1' : (match ml.lookup c with
        | some true => E.nx ((setSlot ds1 j (.exc c ns xs)).set i none) m1
        | some false => E.ex c ns xs ds1 m1
        | none => False) := h1
      cases e : ml.lookup c with
      | none => rw [e] at h1'; exact h1'.elim
      | some b =>
        rw [e] at h1'
        refine ⟨b, hml c b cv e hn, fun hb1 a na => ?_, fun hb1 => ?_⟩
        · subst hb1
          refine n1 _ m1 _ (upd F1 a (ExH cv d a)) _ h1' (R1.new na) (s1.trans (Stp.new R1 na)) ?_
          rw [List.set_comm _ _ hij, List.set_set]
          have sb : Sub F1 (upd F1 a (ExH cv d a)) := Sub.new (R1.sub.none na)
          exact Sl.off i (Sl.set (.exc hn upd_same (hx.mono sb) (hd.mono sb)) j (S1.mono sb))
        · subst hb1
          exact x1 c ns xs ds1 m1 cv d ws σ1 F1 H1 h1' R1 s1 S1 hn hx hd⟩
theorem pds_try (hc : Names X x cl) (hml : ∀ c b cv, ml.lookup c = some b → PySem.W.nsIn X.K mainGlobals c = some (some cv) → PySem.W.exmOne X.K cv cl = some b)
    (hb : ∀ (W : WX) (q : List (Addr × Obj)) (xe : Value → Shared → Prop), Takes (X.tr q xe) W → PassesOwn (model X.prog X.w) X.A X.env xe → PXs (X.tr q xe) W body tb)
    (hsv : ∀ (a : Addr) (q : List (Addr × Obj)), PSs (X.suite a q) [sv] (tAsg (tVar i) (gName j))) (hN : X.N.Nodup) (hi : X.N[i]? = some n) (hln : X.env.kindOf n = some .local) (hij : i ≠ j)
    (hs : X.stack = X.env :: X.outer := by rfl) (hf : X.env.frame = some X.env.locals := by rfl) (hex : X.ex = [] := by rfl) :
    PDS X (.Try body [.ExceptHandler (some (.Name x np)) (some n) [sv] pos'] [] [] pos) (dTry0 ml i j tb) :=
  psImp (px_try hc hml takes0 hb hsv hN hi hln hij hs hf hex) fun D σ H ⟨F, ds, ms, E, R, S, h, n1, r1, k1, q1⟩ => ⟨F, ds, ms, _, R, S, h, n1, r1, k1, q1, fun _ _ _ _ _ _ _ _ _ _ _ z => z.elim⟩
end
structure ExF (K : PySem.W.Frag) (c : Str) (C : Addr) (bmB : List Value) (newId : String) : Prop where
  ns : PySem.W.nsIn K mainGlobals c = some (some (.ref C))
  ex : PySem.W.excIn K C bmB newId = true
  kp : PySem.W.keepIn K (.ref C) = true
  sb : PySem.W.subIn K (.ref C) (.type "BaseException") = some true
  ty : PySem.W.typeIn K (.ref C) = some (.type "type")
  cc : ExcC K C
theorem px_raiseF {X : Cx} {W : WX} {C : Addr} {bmB : List Value} {B newId initId : String} {x m : Str} {j : Nat} {p p2 pos pos' : Pos} (hc : X.calm = true) (tk : Takes X W) (F : ExcBaseFacts B newId initId bmB) (E : ExF X.K x C bmB newId) (gC : X.mg x = some (.ref C)) (hg : Gl X x)
    (hdb : (x == ("__debug__" : Str)) = false := by decide) : PX X W (.Raise (some (.Call (.Name x p) [.Constant (.str m) j p2] [] pos)) none pos') (dRaise x) :=
  px_raise hc tk F E.ex gC E.kp (raises_own E.sb E.ty) hg E.ns hdb
abbrev MlE (K : PySem.W.Frag) (cl : Value) (ml : List (Str × Bool)) : Prop := ∀ c b cv, ml.lookup c = some b → PySem.W.nsIn K mainGlobals c = some (some cv) → PySem.W.exmOne K cv cl = some b
theorem mlE_nil {K : PySem.W.Frag} {cl : Value} : MlE K cl [] := fun c b cv h _ => by cases h
theorem ml_split {c c1 : Str} {b b1 : Bool} {ml : List (Str × Bool)} (h : ((c1, b1) :: ml).lookup c = some b) : (c = c1 ∧ b = b1) ∨ ml.lookup c = some b := by
  rw [List.lookup_cons] at h
  split at h
  · rename_i e
    cases h
    exact .inl ⟨beq_iff_eq.mp e, rfl⟩
  · exact .inr h
end DL
namespace DL
open PySem PySem.Spec PyProof.Rows L2
def nonD : D → Option Bool
  | .non => some true
  | .opq (.ref _) => some false
  | .opq _ => none
  | _ => some false
def fIsB (neg : Bool) : OF := fun x y ms P => match y with
  | .bl b => (match x with
    | .bl a => P (.bl (Bool.xor neg (decide (a = b)))) ms
    | _ => False)
  | .non => (match nonD x with
    | some z => P (.bl (Bool.xor neg z)) ms
    | none => False)
  | _ => False
def fIs : OF := fIsB false
def fNotIs : OF := fIsB true
def rIsD (neg : Bool) : R2 := fun x y H Q => (∃ a b, x = .bl a ∧ y = .bl b ∧ Q (.bl (Bool.xor neg (decide (a = b)))) H) ∨ (y = .non ∧ Q (.bl (Bool.xor neg (decide (x = .non)))) H)
theorem op_isD {X : Cx} : OpR X (compareOp .Is) (rIsD false) := by
  intro pins s σ H x y v u Q I rx ry h
  rcases h with ⟨a, b, e1, e2, q⟩ | ⟨e, q⟩
  · exact op_is_bl pins s σ H x y v u Q I rx ry ⟨a, b, e1, e2, by simpa using q⟩
  · exact op_isN pins s σ H x y v u Q I rx ry ⟨e, by simpa using q⟩
theorem nonD_ok {K : PySem.W.Frag} {F : Hp} {x : V} {d : D} {b : Bool} (r : DR K F x d) (h : nonD d = some b) : decide (x = .non) = b := by
  cases r with
  | opq => cases x <;> cases h <;> first | rfl | decide | simp
  | _ => cases h <;> first | rfl | decide | simp
theorem opd_isB {K : PySem.W.Frag} {neg : Bool} : OpD K (rIsD neg) (fIsB neg) := fun F H ms x y dx dy P Q R rx ry h q => by
  cases ry with
  | bl b =>
    cases rx with
    | bl a => exact .inl ⟨a, b, rfl, rfl, q _ ms _ F H h R Stp.refl (.bl _)⟩
    | _ => exact False.elim h
  | non =>
    cases e : nonD dx with
    | none => unfold fIsB at h; simp only [e] at h
    | some z =>
      unfold fIsB at h
      simp only [e] at h
      refine .inr ⟨rfl, ?_⟩
      rw [nonD_ok rx e]
      exact q _ ms _ F H h R Stp.refl (.bl _)
  | _ => exact False.elim h
theorem opd_is {K : PySem.W.Frag} : OpD K (rIsD false) fIs := opd_isB
def InOk (x : D) (ys : List D) (neg : Bool) (ms : MS) (P : D → MS → Prop) : Prop := ∃ p ps, toPy x = some p ∧ toPys ys = some ps ∧ p.canLay0 = true ∧ p.depth ≤ 60 ∧ PyData.canLayAll0 ps = true ∧ P (.bl (Bool.xor neg (ps.any fun z => PyData.eqv z p))) ms
def fInB (neg : Bool) : OF := fun x y ms P => match y with
  | .lst ys => InOk x ys neg ms P
  | .tup ys => InOk x ys neg ms P
  | _ => False
def fIn : OF := fInB false
def fNotIn : OF := fInB true
def rInF (K : PySem.W.Frag) (neg : Bool) : R2 := fun x y H Q => ∃ F dx dy ms P, Sub F H ∧ DR K F x dx ∧ DR K F y dy ∧ fInB neg dx dy ms P ∧ ∀ b, P (.bl b) ms → Q (.bl b) H
theorem op_inF {X : Cx} (hu : X.A.units + 64 < cLine) : OpR X (compareOp .In) (rInF X.K false) := by
  intro pins s σ H x y v u Q I rx ry h
  obtain ⟨F, dx, dy, ms, P, sb, hx, hy, h, q⟩ := h
  cases hy with
  | lst ha hs =>
    obtain ⟨p, ps, e1, e2, c1, c2, c3, h⟩ := h
    obtain ⟨as, r1⟩ := DR.reads I sb dx p x v hx e1 rx
    obtain ⟨bs, r2⟩ := DR.reads I sb (.lst _) (.list ps) _ u (.lst ha hs) (by unfold toPy; rw [e2]; rfl) ry
    exact SeqAt.in_list_reads r2 r1 c3 c1 (by omega) ⟨.bl _, H, I, rfl, q _ (by simpa using h)⟩
  | tup ha hs =>
    obtain ⟨p, ps, e1, e2, c1, c2, c3, h⟩ := h
    obtain ⟨as, r1⟩ := DR.reads I sb dx p x v hx e1 rx
    obtain ⟨bs, r2⟩ := DR.reads I sb (.tup _) (.tuple ps) _ u (.tup ha hs) (by unfold toPy; rw [e2]; rfl) ry
    exact SeqAt.in_tuple_reads r2 r1 c3 c1 (by omega) ⟨.bl _, H, I, rfl, q _ (by simpa using h)⟩
  | _ => exact False.elim h
theorem op_notInF {X : Cx} (hu : X.A.units + 64 < cLine) : OpR X (compareOp .NotIn) (rInF X.K true) := by
  intro pins s σ H x y v u Q I rx ry h
  obtain ⟨F, dx, dy, ms, P, sb, hx, hy, h, q⟩ := h
  cases hy with
  | lst ha hs =>
    obtain ⟨p, ps, e1, e2, c1, c2, c3, h⟩ := h
    obtain ⟨as, r1⟩ := DR.reads I sb dx p x v hx e1 rx
    obtain ⟨bs, r2⟩ := DR.reads I sb (.lst _) (.list ps) _ u (.lst ha hs) (by unfold toPy; rw [e2]; rfl) ry
    exact SeqAt.notIn_list_reads r2 r1 c3 c1 (by omega) ⟨.bl _, H, I, rfl, q _ (by simpa using h)⟩
  | tup ha hs =>
    obtain ⟨p, ps, e1, e2, c1, c2, c3, h⟩ := h
    obtain ⟨as, r1⟩ := DR.reads I sb dx p x v hx e1 rx
    obtain ⟨bs, r2⟩ := DR.reads I sb (.tup _) (.tuple ps) _ u (.tup ha hs) (by unfold toPy; rw [e2]; rfl) ry
    exact SeqAt.notIn_tuple_reads r2 r1 c3 c1 (by omega) ⟨.bl _, H, I, rfl, q _ (by simpa using h)⟩
  | _ => exact False.elim h
theorem opd_inB {K : PySem.W.Frag} {neg : Bool} : OpD K (rInF K neg) (fInB neg) := fun F H ms x y dx dy P Q R rx ry h q =>
  ⟨F, dx, dy, ms, P, R.sub, rx, ry, h, fun b z => q _ ms _ F H z R Stp.refl (.bl _)⟩
theorem opd_in {K : PySem.W.Frag} : OpD K (rInF K false) fIn := opd_inB
theorem opd_notIn {K : PySem.W.Frag} : OpD K (rInF K true) fNotIn := opd_inB
def dEdic : DE := fun _ ms P => P .edic ms
theorem pd_dict0 {X : Cx} {pos : Pos} : PD X (.Dict [] [] pos) dEdic := peImp pe_dnewK fun σ H Q ⟨F, ds, ms, P, R, S, h1, h2⟩ p hp => h2 _ ms _ (upd F p (.dK [])) _ h1 (R.new hp) (Stp.new R hp) (.edic upd_same)
end DL
namespace DL
open PySem PySem.Spec PyProof.Rows L2
def dIsE (ml : List (Str × Bool)) (de : DE) : DE := fun ds ms P => de ds ms fun d m => match d with
  | .exc c _ _ => (match ml.lookup c with
    | some b => P (.bl b) m
    | none => False)
  | _ => False
def rIsE2 (K : PySem.W.Frag) : List V → Hp → VK → Prop := fun xs H Q => ∃ (a C : Addr) (d : Option Addr) (fs : List (Str × V)) (c : V) (cw : Value) (b : Bool), xs = [.ref a, c] ∧ H a = some (ExH (.ref C) d a) ∧ (d = none ∨ ∃ dx, d = some dx ∧ H dx = some (.xd fs)) ∧ ExcC K C ∧ (∀ u, RelV c u → u = cw) ∧ PySem.W.kitOne K (.ref C) cw = some b ∧ Q (.bl b) H
theorem call_isE2 {X : Cx} : CallR X (.builtin "isinstance") (rIsE2 X.K) := by
  intro pins s σ H xs us Q I r h
  obtain ⟨a, C, d, fs, c, cw, b, rfl, ha, hd, hC, hcw, e, q⟩ := h
  match us, r with
  | [_, u], .cons (.refl _) (.cons rt .nil) =>
    have eu := hcw u rt
    subst eu
    obtain ⟨⟨oe, fv, ho, hz, hf⟩, _, _⟩ := I.hok a _ ha
    have go : ∀ od, PySem.W.InstAt s.heap a oe C od → wpAny (model X.prog X.w) X.A (call (.builtin "isinstance") [.ref a, u]) (EP X pins σ Q) X.xe s := fun od J => by
      have hcl : (PySem.W.clsIn X.K C).isSome = true := by
        obtain ⟨cd, hc, _⟩ := PySem.W.any_some hC.hd
        rw [hc]; rfl
      exact PySem.W.kia_one (PySem.W.kitx_exc hcl hC.hg hC.hk hC.hs hC.ha hC.hn hC.ht hC.hm) I.kIn J e (fun z => nomatch z) fun tk => ⟨.bl b, H, I.kept (t' := tk) fun _ _ z => z, rfl, q⟩
    have nc : PySem.W.notCls oe = true := by unfold PySem.W.notCls; rw [hf]
    rcases hd with rfl | ⟨dx, rfl, hx⟩
    · exact go none ⟨ho, hz.1, nc, by rw [hz.2]; trivial⟩
    · obtain ⟨mA, hns, _⟩ := (show ObjOk X.prog X.w H s.heap dx (.xd fs) from I.hok dx _ hx)
      obtain ⟨od, hod, _⟩ := lookIn_ns hns
      exact go (some od) ⟨ho, hz.1, nc, by rw [hz.2]; exact hod⟩
/-- of each class that may come: it is an own one, and isinstance answers so -/
abbrev MlK (K : PySem.W.Frag) (cw : Value) (ml : List (Str × Bool)) : Prop := ∀ c b cv, ml.lookup c = some b → PySem.W.nsIn K mainGlobals c = some (some cv) → ∃ C, cv = .ref C ∧ ExcC K C ∧ PySem.W.kitOne K (.ref C) cw = some b
theorem mlK_nil {K : PySem.W.Frag} {cw : Value} : MlK K cw [] := fun c b cv h _ => by cases h
theorem mlK_cons {K : PySem.W.Frag} {c1 : Str} {b1 : Bool} {C : Addr} {cw : Value} {ml : List (Str × Bool)} (ns : PySem.W.nsIn K mainGlobals c1 = some (some (.ref C))) (cc : ExcC K C) (h : PySem.W.kitOne K (.ref C) cw = some b1) (r : MlK K cw ml) : MlK K cw ((c1, b1) :: ml) := fun c b cv hl hn => by
  rcases ml_split hl with ⟨rfl, rfl⟩ | hl
  · rw [ns] at hn
    cases hn
    exact ⟨C, rfl, cc, h⟩
  · exact r c b cv hl hn
theorem pd_isE {X : Cx} {e : Expr} {de : DE} {x : Str} {p p2 pos : Pos} {cw : Value} {v2 : V} {ml : List (Str × Bool)} (hml : MlK X.K cw ml) (hr : ∀ u, RelV v2 u → u = cw) (h2 : PE X (.Name x p2) (tC v2))
    (hg : Gl X "isinstance") (hm : X.mg "isinstance" = none)
    (h : PD X e de) (he : starEach [e, .Name x p2] X.env = (false, eval e X.env) :: starEach [.Name x p2] X.env := by rfl) (hpl : (backTo pos (starEach [.Name x p2] X.env)).any (·.1) = false := by rfl) :
    PD X (.Call (.Name "isinstance" p) [e, .Name x p2] [] pos) (dIsE ml de) :=
  peImp (pe_callB call_isE2 hg hm (by decide +kernel) (pa_cons h (pa_cons h2 pa_nil) he) (by decide) (by decide) he hpl) fun σ H Q ⟨F, ds, ms, P, R, S, h1, h2⟩ =>
    ⟨F, ds, ms, _, R, S, h1, fun d m v F1 H1 p1 R1 s1 r1 => by
      match d, p1, r1 with
      | .exc c ns ys, p1, .exc (a := a) (d := dd) (vs := vs) h0 ha hx hs =>
        cases e1 : ml.lookup c with
        | none => simp only [e1] at p1
        | some b =>
          simp only [e1] at p1
          obtain ⟨C, rfl, hC, hk⟩ := hml c b _ e1 h0
          refine ⟨a, C, dd, ns.zip vs, v2, cw, b, rfl, R1.sub _ _ ha, ?_, hC, hr, hk, h2 _ m _ F1 H1 p1 R1 s1 (.bl _)⟩
          rcases hx with ⟨z, _, _⟩ | ⟨dx, z, z2, _⟩
          · exact .inl z
          · exact .inr ⟨dx, z, R1.sub _ _ z2⟩⟩
def dFld (ml : List (Str × Bool)) (f : Str) (de : DE) : DE := fun ds ms P => de ds ms fun d m => match d with
  | .exc c ns xs => (ml.lookup c).isSome = true ∧ ∃ y, (ns.zip xs).lookup f = some y ∧ P y m
  | _ => False
end DL
namespace DL
open PySem PySem.Spec PyProof.Rows L2
/-- raise X(..), X an own class that keeps its arguments -/
def dRaiseI (c : Str) (fs : List Str) (aa : DA) : DTS := fun E ds ms => aa ds ms fun xs m => xs.length = fs.length ∧ E.ex c fs xs ds m
end DL
namespace DL
open PySem PySem.Spec PyProof.Rows L2
abbrev ZD := Str → List Str → List D → DS → MS → Prop
def liftZ (K : PySem.W.Frag) (W : WX) (Z : ZD) (de : DE) : TE := fun σ H Q => ∃ F ds ms P, Rel K F H ms ∧ Sl K F σ ds ∧ de ds ms P ∧
  (∀ d ms' v F' H', P d ms' → Rel K F' H' ms' → Stp F H ms F' H' ms' → DR K F' v d → Q v H') ∧
  (∀ c ns xs ms' cv d ws F' H', Z c ns xs ds ms' → Rel K F' H' ms' → Stp F H ms F' H' ms' → PySem.W.nsIn K mainGlobals c = some (some cv) → XD F' d ns ws → DRs K F' ws xs → W cv d σ H')
abbrev PDZ (X : Cx) (W : WX) (Z : ZD) (e : Expr) (de : DE) : Prop := PE X e (liftZ X.K W Z de)
def dCallZ (n m : Nat) (is : List Nat) (fx : FX) (aa ak : DA) (Z : ZD) : DE := fun ds ms P => aa ds ms fun xs m1 => ak ds m1 fun zs m2 => xs.length = n ∧ zs.length = m ∧ fx (pick is (xs ++ zs)) m2 P fun c ns ys m' => Z c ns ys ds m'
section
variable {X : Cx} {W : WX} {Z : ZD} {k n m i : Nat} {f : Addr} {fd : FuncData} {ps ks : List Str} {is : List Nat} {fx : FX} {x y : Str} {p pos kpos py : Pos} {e o : Expr} {es : List Expr} {kws : List Keyword} {aa ak : DA} {da dx : DE}
def tCallXZ (K : PySem.W.Frag) (W : WX) (n m : Nat) (is : List Nat) (fx : FX) (t tk : TA) : TE := fun σ H Q => t σ H fun vs H1 => tk σ H1 fun zs H2 => vs.length = n ∧ zs.length = m ∧ spX K fx (pick is (vs ++ zs)) H2 Q fun cv d H3 => W cv d σ H3
theorem run_x {pins : List (Addr × Obj)} {σ : L2.St} {H : Hp} {s : Shared} {Q : VK} {us ws : List Value} {vs zs : List V} (tk : Takes X W) (F : FnX X.prog X.w X.K X.mg X.base k f fd ps (spX X.K fx)) (hr : RoomG k X.A) (hb : Bnd X.K fd ps n ks is)
    (I : Inv X pins σ H s) (r : Vals vs us) (rz : Vals zs ws) (l1 : vs.length = n) (l2 : zs.length = ks.length) (h : spX X.K fx (pick is (vs ++ zs)) H Q fun cv d H3 => W cv d σ H3) :
    wpAny (model X.prog X.w) X.A (call (.ref f) us (ks.zip ws)) (EP X pins σ Q) X.xe s := by
  have hb' := hb.to s us ws I.kIn (r.length ▸ l1) (rz.length ▸ l2)
  refine wpAny_call (codeAny_mono (F.go X.A X.stack s H ⟨us, ks.zip ws⟩ _ _ Q _ hr I.env0 hb' (pick_vals (r.append rz) is) h) fun r s' z => ?_)
  match r, z with
  | .error v, z => exact passAt tk σ pins H s v s' I z
  | .ok (.ret u), z => exact I.after z
  | .ok .next, z => exact False.elim z
  | .ok .brk, z => exact False.elim z
  | .ok .cont, z => exact False.elim z
theorem liftZ_call {K : PySem.W.Frag} : ∀ σ H Q, liftZ K W Z (dCallZ n m is fx aa ak Z) σ H Q → tCallXZ K W n m is fx (liftA K aa) (liftA K ak) σ H Q := fun σ H Q ⟨F, ds, ms, P, R, S, h1, h2, h3⟩ =>
  ⟨F, ds, ms, _, R, S, h1, fun xs m1 vs F1 H1 p1 R1 s1 r1 => ⟨F1, ds, m1, _, R1, S.mono s1.sub, p1, fun zs m2 ws F2 H2 p2 R2 s2 r2 => by
    obtain ⟨l1, l2, p2⟩ := p2
    refine ⟨r1.length.trans l1, r2.length.trans l2, F2, _, m2, P, _, R2, pick_drs ((r1.mono s2.sub).append r2) is, p2, fun d m3 v F3 H3 p3 R3 s3 r3 => ?_, fun c ns ys m3 cv d ws F3 H3 z R3 s3 hn hx hd => ?_⟩
    · exact h2 d m3 v F3 H3 p3 R3 (s1.trans (s2.trans s3)) r3
    · exact h3 c ns ys m3 cv d ws F3 H3 z R3 (s1.trans (s2.trans s3)) hn hx hd⟩⟩
theorem pdz_call (tk : Takes X W) (F : FnX X.prog X.w X.K X.mg X.base k f fd ps (spX X.K fx)) (hr : RoomG k X.A) (hg : Gl X x) (hm : X.mg x = some (.ref f)) (hk : PySem.W.keepIn X.K (.ref f) = true) (hb : Bnd X.K fd ps n [] is)
    (ha : PDA X (e :: es) aa) (hdb : (x == ("__debug__" : Str)) = false := by decide)
    (he : starEach (e :: es) X.env = (false, eval e X.env) :: starEach es X.env := by rfl)
    (hpl : (backTo pos (starEach es X.env)).any (·.1) = false := by rfl) :
    PDZ X W Z (.Call (.Name x p) (e :: es) [] pos) (dCallZ n 0 is fx aa aNil Z) := by
  refine peImp (t := tCallXZ X.K W n 0 is fx (liftA X.K aa) tNil) ⟨fun pins s σ H Q I h => ?_⟩ fun σ H Q h => ?_
  · refine wpAny_Call_Name_kw (ld_glob I hg hm ?_ hdb)
    refine PySem.W.callWith_K (h₀ := X.base) I.ok.mod.kin hk (thn (ha.run pos pins s σ H _ I h) ?_) he hpl
    rintro us s1 ⟨vs, H1, I1, r, l1, l2, q⟩
    exact ⟨I1.kIn, run_x (ws := []) (zs := []) (ks := []) tk F hr hb I1 r .nil l1 rfl q⟩
  · obtain ⟨F0, ds, ms, P, R, S, h1, h2⟩ := liftZ_call σ H Q h
    refine ⟨F0, ds, ms, P, R, S, h1, fun xs m v F1 H1 p1 R1 s1 r1 => ?_⟩
    obtain ⟨F2, ds2, m2, P2, R2, S2, p2, q2⟩ := h2 xs m v F1 H1 p1 R1 s1 r1
    exact q2 [] m2 [] F2 H1 p2 R2 Stp.refl .nil
def dExprZ (de : ZD → DE) : DTS := fun E ds ms => de E.ex ds ms fun _ m => E.nx ds m
def dRetZ (de : ZD → DE) : DTS := fun E ds ms => de E.ex ds ms E.rt
def dAsgZ (de : ZD → DE) (g : DG) : DTS := fun E ds ms => de E.ex ds ms fun d m => g d ds fun ds1 => E.nx ds1 m
variable {dz : ZD → DE}
theorem px_exprZ (he : ∀ Z, PDZ X W Z e (dz Z)) (hs : swapsWith e none pos.line X.env = pure false := by rfl) : PX X W (.Expr e pos) (dExprZ dz) :=
  ⟨fun pins s σ H D I ⟨F, ds, ms, E, R, S, h, n, r, k, q, x⟩ => (ps_expr (he E.ex) hs).run pins s σ H D I
    ⟨F, ds, ms, _, R, S, h, fun d m v F1 H1 p1 R1 s1 r1 => n ds m σ F1 H1 p1 R1 s1 (S.mono s1.sub), fun c ns xs m cv d ws F1 H1 z R1 s1 hn hx hd => x c ns xs ds m cv d ws σ F1 H1 z R1 s1 (S.mono s1.sub) hn hx hd⟩⟩
end
end DL
namespace DL
open PySem PySem.Spec PyProof.Rows L2
structure ExB (K : PySem.W.Frag) (c : Str) (C : Addr) : Prop where
  ns : PySem.W.nsIn K mainGlobals c = some (some (.ref C))
  kp : PySem.W.keepIn K (.ref C) = true
  sb : PySem.W.subIn K (.ref C) (.type "BaseException") = some true
  ty : PySem.W.typeIn K (.ref C) = some (.type "type")
  cc : ExcC K C
section
variable {K : PySem.W.Frag} {c1 c2 f : Str} {b1 : Bool} {C C2 : Addr} {cw : Value} {ml : List (Str × Bool)}
theorem mlE_b (E1 : ExB K c1 C) (E2 : ExB K c2 C2) (h : PySem.W.subIn K (.ref C) (.ref C2) = some b1) (r : MlE K (.ref C2) ml) : MlE K (.ref C2) ((c1, b1) :: ml) := fun c b cv hl hn => by
  rcases ml_split hl with ⟨rfl, rfl⟩ | hl
  · rw [E1.ns] at hn
    cases hn
    exact PySem.W.exm_ref E2.sb E2.cc.hd E2.ty h
  · exact r c b cv hl hn
theorem mlK_b (E1 : ExB K c1 C) (h : PySem.W.kitOne K (.ref C) cw = some b1) (r : MlK K cw ml) : MlK K cw ((c1, b1) :: ml) := mlK_cons E1.ns E1.cc h r
end
def cStr : CF := fun xs ms P => match xs with
  | [.str x] => P (.str x) ms
  | [d] => Shw d ∧ P (.str (repS d)) ms
  | _ => False
def dChain (f f' : OF) (da db dc : DE) : DE := fun ds ms P => da ds ms fun x m1 => db ds m1 fun y m2 => f x y m2 fun z m3 => match z with
  | .bl k => if k = true then dc ds m3 fun w m4 => f' y w m4 P else P (.bl false) m3
  | _ => False
section
variable {X : Cx} {a b c : Expr} {da db dc : DE} {op op' : CmpOp} {r r' : R2} {f f' : OF} {pos : Pos}
theorem lift_chain {K : PySem.W.Frag} (hf : OpD K r f) (hf' : OpD K r' f') : ∀ σ H Q, lift K (dChain f f' da db dc) σ H Q → tChain r r' (lift K da) (lift K db) (lift K dc) σ H Q := fun σ H Q ⟨F, ds, ms, P, R, S, h1, h2⟩ =>
  ⟨F, ds, ms, _, R, S, h1, fun dx m1 x F1 H1 p1 R1 s1 r1 => ⟨F1, ds, m1, _, R1, S.mono s1.sub, p1, fun dy m2 y F2 H2 p2 R2 s2 r2 => hf F2 H2 m2 x y dx dy _ _ R2 (r1.mono s2.sub) r2 p2 fun dz m3 z F3 H3 p3 R3 s3 r3 => by
    cases r3 with
    | bl k =>
      refine ⟨k, rfl, ?_⟩
      cases k with
      | true =>
        have s13 := (s1.trans s2).trans s3
        simp only [if_true] at p3 ⊢
        exact ⟨F3, ds, m3, _, R3, S.mono s13.sub, p3, fun dw m4 w F4 H4 p4 R4 s4 r4 => hf' F4 H4 m4 y w dy dw _ _ R4 ((r2.mono s3.sub).mono s4.sub) r4 p4 fun d m5 v F5 H5 p5 R5 s5 r5 => h2 d m5 v F5 H5 p5 R5 ((s13.trans s4).trans s5) r5⟩
      | false =>
        simp only [if_neg Bool.false_ne_true] at p3 ⊢
        exact h2 _ m3 _ F3 H3 p3 R3 ((s1.trans s2).trans s3) (.bl false)
    | _ => exact p3.elim⟩⟩
theorem pd_chain (ho : OpR X (compareOp op) r) (hf : OpD X.K r f) (ho' : OpR X (compareOp op') r') (hf' : OpD X.K r' f') (ha : PD X a da) (hb : PD X b db) (hc : PD X c dc)
    (hm : lastMarks [op, op'] [b, c] = false := by with_unfolding_all rfl) : PD X (.Compare a [op, op'] [b, c] pos) (dChain f f' da db dc) := peImp (pe_chain ho ho' ha hb hc hm) (lift_chain hf hf')
end
end DL
namespace DL
open PySem PySem.Spec PyProof.Rows L2
def StG (t : DTS) (E : EN) (ds : DS) (ms : MS) : Prop := t E ds ms
def ExG (de : DE) (ds : DS) (ms : MS) (P : D → MS → Prop) : Prop := de ds ms P
def TsG (dt : DT) (ds : DS) (ms : MS) (P : Bool → MS → Prop) : Prop := dt ds ms P
def ArG (da : DA) (ds : DS) (ms : MS) (P : List D → MS → Prop) : Prop := da ds ms P
def ItG (di : DI) (ds : DS) (ms : MS) (P : List D → MS → Prop) : Prop := di ds ms P
def OgG (o : DO) (ds : DS) (ms : MS) (P : Option Int → MS → Prop) : Prop := o ds ms P
def TgG (g : DG) (d : D) (ds : DS) (P : DS → Prop) : Prop := g d ds P
def TgsG (g : DGs) (d : List D) (ds : DS) (P : DS → Prop) : Prop := g d ds P
def OpG (f : OF) (x y : D) (ms : MS) (P : D → MS → Prop) : Prop := f x y ms P
def CbG (f : CF) (xs : List D) (ms : MS) (P : D → MS → Prop) : Prop := f xs ms P
def SlG (x : D) (l u : Option Int) (ms : MS) (P : D → MS → Prop) : Prop := fSl x l u ms P
def NxG (E : EN) (ds : DS) (ms : MS) : Prop := E.nx ds ms
def RtG (E : EN) (d : D) (ms : MS) : Prop := E.rt d ms
def BkG (E : EN) (ds : DS) (ms : MS) : Prop := E.bk ds ms
def CtG (E : EN) (ds : DS) (ms : MS) : Prop := E.ct ds ms
def XcG (E : EN) (c : Str) (ns : List Str) (xs : List D) (ds : DS) (ms : MS) : Prop := E.ex c ns xs ds ms
/-- ends with another next, as a loop's body has them, with other exceptions -/
def EN.wn (E : EN) (f : DS → MS → Prop) : EN := { E with nx := f }
def EN.lp (E : EN) (f : DS → MS → Prop) : EN := { E with nx := f, ct := f, bk := E.nx }
def EN.wx (E : EN) (f : Str → List Str → List D → DS → MS → Prop) : EN := { E with ex := f }
section
variable {E : EN} {f : DS → MS → Prop} {fx : Str → List Str → List D → DS → MS → Prop} {ds : DS} {ms : MS} {d : D} {c : Str} {ns : List Str} {xs : List D} {un ub uc : DS → MS → Prop} {ur : D → MS → Prop} {ux : Str → List Str → List D → DS → MS → Prop}
theorem n_wn (h : f ds ms) : NxG (EN.wn E f) ds ms := h
theorem n_lp (h : f ds ms) : NxG (EN.lp E f) ds ms := h
theorem n_wx (h : NxG E ds ms) : NxG (EN.wx E fx) ds ms := h
theorem n_mk (h : un ds ms) : NxG ⟨un, ur, ub, uc, ux⟩ ds ms := h
theorem t_wn (h : RtG E d ms) : RtG (EN.wn E f) d ms := h
theorem t_lp (h : RtG E d ms) : RtG (EN.lp E f) d ms := h
theorem t_wx (h : RtG E d ms) : RtG (EN.wx E fx) d ms := h
theorem t_mk (h : ur d ms) : RtG ⟨un, ur, ub, uc, ux⟩ d ms := h
theorem b_wn (h : BkG E ds ms) : BkG (EN.wn E f) ds ms := h
theorem b_lp (h : NxG E ds ms) : BkG (EN.lp E f) ds ms := h
theorem b_wx (h : BkG E ds ms) : BkG (EN.wx E fx) ds ms := h
theorem c_wn (h : CtG E ds ms) : CtG (EN.wn E f) ds ms := h
theorem c_lp (h : f ds ms) : CtG (EN.lp E f) ds ms := h
theorem c_wx (h : CtG E ds ms) : CtG (EN.wx E fx) ds ms := h
theorem x_wn (h : XcG E c ns xs ds ms) : XcG (EN.wn E f) c ns xs ds ms := h
theorem x_lp (h : XcG E c ns xs ds ms) : XcG (EN.lp E f) c ns xs ds ms := h
theorem x_wx (h : fx c ns xs ds ms) : XcG (EN.wx E fx) c ns xs ds ms := h
theorem x_mk (h : ux c ns xs ds ms) : XcG ⟨un, ur, ub, uc, ux⟩ c ns xs ds ms := h
end
section
variable {t : DTS} {E : EN} {ds : DS} {ms : MS} {de : DE} {P : D → MS → Prop} {dt : DT} {PT : Bool → MS → Prop} {da : DA} {PA : List D → MS → Prop} {di : DI} {o : DO} {PO : Option Int → MS → Prop} {g : DG} {gs : DGs} {d x y : D} {xs : List D} {PS : DS → Prop} {f : OF} {c : CF} {l u : Option Int}
theorem StG.out (h : t E ds ms) : StG t E ds ms := h
theorem ExG.out (h : de ds ms P) : ExG de ds ms P := h
theorem TsG.out (h : dt ds ms PT) : TsG dt ds ms PT := h
theorem ArG.out (h : da ds ms PA) : ArG da ds ms PA := h
theorem ItG.out (h : di ds ms PA) : ItG di ds ms PA := h
theorem OgG.out (h : o ds ms PO) : OgG o ds ms PO := h
theorem TgG.out (h : g d ds PS) : TgG g d ds PS := h
theorem TgsG.out (h : gs xs ds PS) : TgsG gs xs ds PS := h
theorem OpG.out (h : f x y ms P) : OpG f x y ms P := h
theorem CbG.out (h : c xs ms P) : CbG c xs ms P := h
theorem SlG.out (h : fSl x l u ms P) : SlG x l u ms P := h
end
section
variable {E : EN} {ds ds' : DS} {ms m : MS} {P : D → MS → Prop} {A B : Prop} {t u tb : DTS} {de da db dc : DE} {dt du : DT} {g : DG} {gs : DGs} {aa ak : DA} {di : DI} {d x y : D} {xs ys zs : List D} {n k i j : Nat} {b : Bool} {PT : Bool → MS → Prop} {PA : List D → MS → Prop} {PS : DS → Prop} {PO : Option Int → MS → Prop}
theorem w_seq (h : StG t (EN.wn E (StG u E)) ds ms) : dSeq t u E ds ms := h
theorem w_next (h : NxG E ds ms) : dNext E ds ms := h
theorem w_break (h : BkG E ds ms) : dBreak E ds ms := h
theorem w_cont (h : CtG E ds ms) : dCont E ds ms := h
theorem w_ret (h : ExG de ds ms (RtG E)) : dRet de E ds ms := h
theorem w_retN (h : RtG E .non ms) : dRetN E ds ms := h
theorem w_drop (h : ExG de ds ms fun _ m => NxG E ds m) : dDrop de E ds ms := h
theorem w_ifS (h : TsG dt ds ms fun b m => if b = true then StG t E ds m else StG u E ds m) : dIfS dt t u E ds ms := h
theorem w_asg (h : ExG de ds ms fun d m => TgG g d ds fun ds1 => NxG E ds1 m) : dAsg de g E ds ms := h
def mPar (i j : Nat) (E : EN) (ds : DS) (xs : List D) (m : MS) : Prop := match xs with
  | [x, y] => E.nx (setSlot (setSlot ds i x) j y) m
  | _ => False
theorem w_par (h : ArG aa ds ms fun xs m => mPar i j E ds xs m) : dPar i j aa E ds ms := h
theorem w_mPar (e : setSlot (setSlot ds i x) j y = ds') (h : NxG E ds' m) : mPar i j E ds [x, y] m := by subst e; exact h
theorem w_for (h : ItG di ds ms fun xs m => loopD g tb E xs ds m) : dFor di g tb E ds ms := h
theorem w_raise {c : Str} (h : XcG E c [] [] ds ms) : dRaise c E ds ms := h
theorem w_raiseI {c : Str} {fs : List Str} (h : ArG aa ds ms fun xs m => xs.length = fs.length ∧ XcG E c fs xs ds m) : dRaiseI c fs aa E ds ms := h
theorem w_exprZ {dz : ZD → DE} (h : ExG (dz (XcG E)) ds ms fun _ m => NxG E ds m) : dExprZ dz E ds ms := h
theorem w_retZ {dz : ZD → DE} (h : ExG (dz (XcG E)) ds ms (RtG E)) : dRetZ dz E ds ms := h
theorem w_asgZ {dz : ZD → DE} (h : ExG (dz (XcG E)) ds ms fun d m => TgG g d ds fun ds1 => NxG E ds1 m) : dAsgZ dz g E ds ms := h
def mTry (ml : List (Str × Bool)) (i j : Nat) (E : EN) (c : Str) (ns : List Str) (xs : List D) (ds : DS) (ms : MS) : Prop := match ml.lookup c with
  | some true => E.nx ((setSlot ds j (.exc c ns xs)).set i none) ms
  | some false => E.ex c ns xs ds ms
  | none => False
theorem w_try {ml : List (Str × Bool)} (h : StG tb (EN.wx E (mTry ml i j E)) ds ms) : dTry ml i j tb E ds ms := h
theorem w_try0 {ml : List (Str × Bool)} (h : StG (dTry ml i j tb) (EN.wx E fun _ _ _ _ _ => False) ds ms) : dTry0 ml i j tb E ds ms := h
theorem w_mTry {ml : List (Str × Bool)} {c : Str} {ns : List Str} (e : ml.lookup c = some true) (e2 : (setSlot ds j (.exc c ns xs)).set i none = ds') (h : NxG E ds' ms) : mTry ml i j E c ns xs ds ms := by
  unfold mTry; rw [e]; subst e2; exact h
theorem w_mTryF {ml : List (Str × Bool)} {c : Str} {ns : List Str} (e : ml.lookup c = some false) (h : XcG E c ns xs ds ms) : mTry ml i j E c ns xs ds ms := by
  unfold mTry; rw [e]; exact h
theorem w_name (e : setSlot ds i d = ds') (h : PS ds') : sName i d ds PS := by subst e; exact h
theorem w_stup (e : xs.length = n) (h : TgsG gs xs ds PS) : sTup n gs (.tup xs) ds PS := ⟨e, h⟩
theorem w_scons (h : TgG g x ds fun ds1 => TgsG gs ys ds1 PS) : sCons g gs (x :: ys) ds PS := h
theorem w_snil (h : PS ds) : sNil [] ds PS := h
theorem w_c (h : P d ms) : dC d ds ms P := h
theorem w_var (e : slot ds i = some d) (h : P d ms) : dVar i ds ms P := by unfold dVar; rw [e]; exact h
theorem w_op {f : OF} (h : ExG da ds ms fun x m => ExG db ds m fun y m2 => OpG f x y m2 P) : dOp f da db ds ms P := h
theorem w_tup (h : ArG aa ds ms fun xs m => xs.length ≤ sizeLine ∧ P (.tup xs) m) : dTup aa ds ms P := h
theorem w_lst (h : ArG aa ds ms fun xs m => xs.length ≤ sizeLine ∧ P (.lst xs) m) : dLst aa ds ms P := h
theorem w_lstM (h : ArG aa ds ms fun xs m => xs.length ≤ sizeLine ∧ ∀ p, (∀ q ∈ m, q.1 ≠ p) → P (.opq (.ref p)) ((p, xs) :: m)) : dLstM aa ds ms P := h
theorem w_size (e : n ≤ sizeLine) (h : A) : n ≤ sizeLine ∧ A := ⟨e, h⟩
theorem w_sizeL (e : n < sizeLine) (h : A) : n < sizeLine ∧ A := ⟨e, h⟩
theorem w_anil (h : PA [] ms) : aNil ds ms PA := h
theorem w_acons (h : ExG de ds ms fun x m1 => ArG aa ds m1 fun xs m2 => PA (x :: xs) m2) : aCons de aa ds ms PA := h
theorem w_edic (h : P .edic ms) : dEdic ds ms P := h
def mNeg (d : D) (m : MS) (P : D → MS → Prop) : Prop := match d with
  | .int i => P (.int (-i)) m
  | _ => False
theorem w_neg (h : ExG de ds ms fun x m => mNeg x m P) : dNeg de ds ms P := h
theorem w_mNeg {i : Int} (h : P (.int (-i)) m) : mNeg (.int i) m P := h
def mNot (d : D) (m : MS) (P : D → MS → Prop) : Prop := match d with
  | .bl b => P (.bl (!b)) m
  | _ => False
theorem w_notV (h : ExG de ds ms fun x m => mNot x m P) : dNotV de ds ms P := h
theorem w_mNotT (e : b = true) (h : P (.bl false) m) : mNot (.bl b) m P := by subst e; exact h
theorem w_mNotF (e : b = false) (h : P (.bl true) m) : mNot (.bl b) m P := by subst e; exact h
theorem w_mNot (h : P (.bl (!b)) m) : mNot (.bl b) m P := h
def mAnd (db : DE) (ds : DS) (d : D) (m : MS) (P : D → MS → Prop) : Prop := match d with
  | .bl b => if b = true then db ds m P else P (.bl false) m
  | _ => False
theorem w_andV (h : ExG da ds ms fun x m => mAnd db ds x m P) : dAndV da db ds ms P := h
theorem w_mAnd (h : if b = true then ExG db ds m P else P (.bl false) m) : mAnd db ds (.bl b) m P := h
def mOr (db : DE) (ds : DS) (d : D) (m : MS) (P : D → MS → Prop) : Prop := match d with
  | .bl b => if b = true then P (.bl true) m else db ds m P
  | _ => False
theorem w_orV (h : ExG da ds ms fun x m => mOr db ds x m P) : dOrV da db ds ms P := h
theorem w_mOr (h : if b = true then P (.bl true) m else ExG db ds m P) : mOr db ds (.bl b) m P := h
theorem w_if (h : TsG dt ds ms fun b m => if b = true then ExG da ds m P else ExG db ds m P) : dIf dt da db ds ms P := h
theorem w_iteT (e : b = true) (h : A) : if b = true then A else B := by rw [if_pos e]; exact h
theorem w_iteF (e : b = false) (h : B) : if b = true then A else B := by rw [if_neg (by rw [e]; decide)]; exact h
def mTest (d : D) (m : MS) (P : Bool → MS → Prop) : Prop := match d with
  | .bl b => P b m
  | _ => False
theorem w_test (h : ExG da ds ms fun x m => mTest x m PT) : dTest da ds ms PT := h
theorem w_mTest (h : PT b m) : mTest (.bl b) m PT := h
theorem w_yes (h : PT true ms) : dYes ds ms PT := h
theorem w_not (h : TsG dt ds ms fun b m => PT (!b) m) : dNot dt ds ms PT := h
theorem w_and (h : TsG dt ds ms fun b m => if b = true then TsG du ds m PT else PT false m) : dAnd dt du ds ms PT := h
theorem w_or (h : TsG dt ds ms fun b m => if b = true then PT true m else TsG du ds m PT) : dOr dt du ds ms PT := h
theorem w_tru (h : ExG da ds ms fun x m => truD x m fun b => PT b m) : dTru da ds ms PT := h
def mCall (n k : Nat) (is : List Nat) (fs : FS) (xs zs : List D) (m : MS) (P : D → MS → Prop) : Prop := xs.length = n ∧ zs.length = k ∧ fs (pick is (xs ++ zs)) m P
theorem w_call {is : List Nat} {fs : FS} (h : ArG aa ds ms fun xs m1 => ArG ak ds m1 fun zs m2 => mCall n k is fs xs zs m2 P) : dCall n k is fs aa ak ds ms P := h
theorem w_mCall {is : List Nat} {fs : FS} (e1 : xs.length = n) (e2 : zs.length = k) (e : pick is (xs ++ zs) = ys) (h : fs ys m P) : mCall n k is fs xs zs m P := ⟨e1, e2, by rw [e]; exact h⟩
def mCallZ (n k : Nat) (is : List Nat) (fx : FX) (Z : ZD) (ds : DS) (xs zs : List D) (m : MS) (P : D → MS → Prop) : Prop := xs.length = n ∧ zs.length = k ∧ fx (pick is (xs ++ zs)) m P fun c ns ys m' => Z c ns ys ds m'
theorem w_callZ {is : List Nat} {fx : FX} {Z : ZD} (h : ArG aa ds ms fun xs m1 => ArG ak ds m1 fun zs m2 => mCallZ n k is fx Z ds xs zs m2 P) : dCallZ n k is fx aa ak Z ds ms P := h
theorem w_mCallZ {is : List Nat} {fx : FX} {Z : ZD} (e1 : xs.length = n) (e2 : zs.length = k) (e : pick is (xs ++ zs) = ys) (h : fx ys m P fun c ns ys m' => Z c ns ys ds m') : mCallZ n k is fx Z ds xs zs m P := ⟨e1, e2, by rw [e]; exact h⟩
theorem w_cb {f : CF} (h : ArG aa ds ms fun xs m => CbG f xs m P) : dCB f aa ds ms P := h
section
variable {i j : Int} {a c : List D} {z w : Str} {lo hi : Option Int} {p : Addr}
theorem w_add_ii (h : P (.int (i + j)) ms) : fAdd (.int i) (.int j) ms P := h
theorem w_add_ss (h : z.length + w.length ≤ sizeLine ∧ P (.str (z ++ w)) ms) : fAdd (.str z) (.str w) ms P := h
theorem w_add_ll (h : a.length + c.length ≤ sizeLine ∧ P (.lst (a ++ c)) ms) : fAdd (.lst a) (.lst c) ms P := h
theorem w_add_ol (e : look ms p = some a) (h : a.length + c.length ≤ sizeLine ∧ P (.lst (a ++ c)) ms) : fAdd (.opq (.ref p)) (.lst c) ms P := by unfold fAdd; simp only [e]; exact h
theorem w_add_tt (h : a.length + c.length ≤ sizeLine ∧ P (.tup (a ++ c)) ms) : fAdd (.tup a) (.tup c) ms P := h
theorem w_sub (h : P (.int (i - j)) ms) : fSub (.int i) (.int j) ms P := ⟨trivial, h⟩
theorem w_mul (h : CMulD i j ∧ P (.int (i * j)) ms) : fMul (.int i) (.int j) ms P := h
theorem w_mul_l (h : (-(2 ^ 63) ≤ i ∧ i < 2 ^ 63 ∧ a.length * i.toNat ≤ sizeLine) ∧ P (.lst (List.replicate i.toNat a).flatten) ms) : fMul (.lst a) (.int i) ms P := h
theorem w_div (h : CDivA i j ∧ P (.int (i.fdiv j)) ms) : fDiv (.int i) (.int j) ms P := h
theorem w_mod (h : j ≠ 0 ∧ P (.int (i.fmod j)) ms) : fMod (.int i) (.int j) ms P := h
theorem w_pow (e : 0 ≤ j ∧ j ≤ 1000000) {r : Int} (er : (10 : Int) ^ j.toNat = r) (h : P (.int r) ms) : fPow (.int 10) (.int j) ms P := ⟨⟨e.1, e.2, by decide⟩, by rw [← er] at h; exact h⟩
theorem w_lt (h : P (.bl (decide (i < j))) ms) : fLt (.int i) (.int j) ms P := ⟨trivial, h⟩
theorem w_le (h : P (.bl (decide (i ≤ j))) ms) : fLe (.int i) (.int j) ms P := ⟨trivial, h⟩
theorem w_gt (h : P (.bl (decide (j < i))) ms) : fGt (.int i) (.int j) ms P := ⟨trivial, h⟩
theorem w_ge (h : P (.bl (decide (j ≤ i))) ms) : fGe (.int i) (.int j) ms P := ⟨trivial, h⟩
theorem w_eq_ii (h : P (.bl (i == j)) ms) : fEq (.int i) (.int j) ms P := h
theorem w_eq_ss (h : P (.bl (z == w)) ms) : fEq (.str z) (.str w) ms P := h
theorem w_eq_l0 (h : P (.bl a.isEmpty) ms) : fEq (.lst a) (.lst []) ms P := h
theorem w_eq_bb {b c : Bool} (h : P (.bl (b == c)) ms) : fEq (.bl b) (.bl c) ms P := ⟨⟨_, rfl, rfl⟩, ⟨_, rfl, rfl⟩, by
  have e : eqD (.bl b) (.bl c) = (b == c) := by cases b <;> cases c <;> rfl
  rw [e]; exact h⟩
theorem w_eq_lc (h : ShD (.lst a) ∧ ShD (.lst (d :: c)) ∧ P (.bl (eqD (.lst a) (.lst (d :: c)))) ms) : fEq (.lst a) (.lst (d :: c)) ms P := h
theorem w_eq_tt (h : ShD (.tup a) ∧ ShD (.tup c) ∧ P (.bl (eqD (.tup a) (.tup c))) ms) : fEq (.tup a) (.tup c) ms P := h
theorem w_ne_ii (h : P (.bl (!(i == j))) ms) : fNe (.int i) (.int j) ms P := h
theorem w_ne_ss (h : P (.bl (!(z == w))) ms) : fNe (.str z) (.str w) ms P := h
theorem w_ne_l0 (h : P (.bl (!a.isEmpty)) ms) : fNe (.lst a) (.lst []) ms P := h
theorem w_ne_bb {b c : Bool} (h : P (.bl (!(b == c))) ms) : fNe (.bl b) (.bl c) ms P := ⟨⟨_, rfl, rfl⟩, ⟨_, rfl, rfl⟩, by
  have e : eqD (.bl b) (.bl c) = (b == c) := by cases b <;> cases c <;> rfl
  rw [e]; exact h⟩
theorem w_ne_lc (h : ShD (.lst a) ∧ ShD (.lst (d :: c)) ∧ P (.bl (!eqD (.lst a) (.lst (d :: c)))) ms) : fNe (.lst a) (.lst (d :: c)) ms P := h
theorem w_ne_tt (h : ShD (.tup a) ∧ ShD (.tup c) ∧ P (.bl (!eqD (.tup a) (.tup c))) ms) : fNe (.tup a) (.tup c) ms P := h
theorem w_in_l (h : InOk x a false ms P) : fIn x (.lst a) ms P := h
theorem w_in_t (h : InOk x a false ms P) : fIn x (.tup a) ms P := h
theorem w_notIn_l (h : InOk x a true ms P) : fNotIn x (.lst a) ms P := h
theorem w_notIn_t (h : InOk x a true ms P) : fNotIn x (.tup a) ms P := h
theorem w_ix_t (e : atI a i = some d) (h : P d ms) : fIx (.tup a) (.int i) ms P := by unfold fIx; simp only [e]; exact h
theorem w_ix_l (e : atI a i = some d) (h : P d ms) : fIx (.lst a) (.int i) ms P := by unfold fIx; simp only [asL, e]; exact h
theorem w_ix_f (e : atI a i = some d) (h : P d ms) : fIx (.fro a) (.int i) ms P := by unfold fIx; simp only [asL, e]; exact h
theorem w_ix_o (e0 : look ms p = some a) (e : atI a i = some d) (h : P d ms) : fIx (.opq (.ref p)) (.int i) ms P := by unfold fIx; simp only [asL, e0, e]; exact h
theorem w_ix_s {c : Nat} (e0 : z.length ≤ sizeLine) (e : atI z.cps.toList i = some c) (h : P (.str ⟨#[c]⟩) ms) : fIx (.str z) (.int i) ms P := by unfold fIx; simp only [e]; exact ⟨e0, h⟩
theorem w_at0 {α : Type} (x : α) (r : List α) : atI (x :: r) 0 = some x := by simp [atI, ixN]
theorem w_at1 {α : Type} (x y : α) (r : List α) : atI (x :: y :: r) 1 = some y := by
  have h : (1 : Int) < (r.length : Int) + 1 + 1 := by omega
  simp [atI, ixN, h]
theorem w_at2 {α : Type} (x y z : α) (r : List α) : atI (x :: y :: z :: r) 2 = some z := by
  have h : (2 : Int) < (r.length : Int) + 1 + 1 + 1 := by omega
  simp [atI, ixN, h]
theorem w_at3 {α : Type} (x y z u : α) (r : List α) : atI (x :: y :: z :: u :: r) 3 = some u := by
  have h : (3 : Int) < (r.length : Int) + 1 + 1 + 1 + 1 := by omega
  simp [atI, ixN, h]
theorem w_sl {ol oh : DO} (h : ExG de ds ms fun x m1 => OgG ol ds m1 fun l m2 => OgG oh ds m2 fun u m3 => SlG x l u m3 P) : dSl de ol oh ds ms P := h
theorem w_sl_l (h : P (.lst (cutL a lo hi)) ms) : fSl (.lst a) lo hi ms P := h
theorem w_sl_f (h : P (.lst (cutL a lo hi)) ms) : fSl (.fro a) lo hi ms P := h
theorem w_sl_t (h : P (.tup (cutL a lo hi)) ms) : fSl (.tup a) lo hi ms P := h
theorem w_sl_s (h : z.length ≤ sizeLine ∧ P (.str (cutS z lo hi)) ms) : fSl (.str z) lo hi ms P := h
theorem w_onone (h : PO none ms) : oNone ds ms PO := h
def mSome (d : D) (m : MS) (P : Option Int → MS → Prop) : Prop := match d with
  | .int i => P (some i) m
  | _ => False
theorem w_osome (h : ExG de ds ms fun d m => mSome d m PO) : oSome de ds ms PO := h
theorem w_mSome (h : PO (some i) m) : mSome (.int i) m PO := h
theorem w_len_l (h : P (.int a.length) ms) : cLen [.lst a] ms P := h
theorem w_len_f (h : P (.int a.length) ms) : cLen [.fro a] ms P := h
theorem w_len_t (h : P (.int a.length) ms) : cLen [.tup a] ms P := h
theorem w_len_s (h : z.length ≤ sizeLine ∧ P (.int z.length) ms) : cLen [.str z] ms P := h
theorem w_len_o (e : look ms p = some a) (h : P (.int a.length) ms) : cLen [.opq (.ref p)] ms P := by unfold cLen; simp only [asL, e]; exact h
theorem w_list_l (h : P (.lst a) ms) : cList [.lst a] ms P := h
theorem w_list_f (h : P (.lst a) ms) : cList [.fro a] ms P := h
theorem w_list_t (h : P (.lst a) ms) : cList [.tup a] ms P := h
theorem w_tuple_l (h : P (.tup a) ms) : cTuple [.lst a] ms P := h
theorem w_tuple_t (h : P (.tup a) ms) : cTuple [.tup a] ms P := h
theorem w_str_s (h : P (.str z) ms) : cStr [.str z] ms P := h
theorem w_str_l (h : Shw (.lst a) ∧ P (.str (repS (.lst a))) ms) : cStr [.lst a] ms P := h
theorem w_str_i (h : Shw (.int i) ∧ P (.str (repS (.int i))) ms) : cStr [.int i] ms P := h
theorem w_repr (h : Shw d ∧ P (.str (repS d)) ms) : cRepr [d] ms P := h
theorem w_abs (h : P (.int (if i < 0 then -i else i)) ms) : cAbs [.int i] ms P := h
theorem w_max2 (h : P (.int (if j > i then j else i)) ms) : cMax2 [.int i, .int j] ms P := h
theorem w_min2 (h : P (.int (if j < i then j else i)) ms) : cMin2 [.int i, .int j] ms P := h
theorem w_int_i (h : P (.int i) ms) : cInt1 [.int i] ms P := h
theorem w_int_b (h : P (.int (if b then 1 else 0)) ms) : cInt1 [.bl b] ms P := h
theorem w_all {bs : List Bool} (e : blsOf a = some bs) (h : P (.bl (bs.all id)) ms) : cAll [.lst a] ms P := by unfold cAll; simp only [e]; exact h
theorem w_sum {ns : List Int} (e : intsOf a = some ns) (h : P (.int ns.sum) ms) : cSum [.lst a] ms P := by unfold cSum; simp only [e]; exact h
def mSeq (d : D) (m : MS) (P : List D → MS → Prop) : Prop := match d with
  | .lst xs => P xs m
  | .fro xs => P xs m
  | _ => False
theorem w_iseq (h : ExG de ds ms fun d m => mSeq d m PA) : iSeq de ds ms PA := h
theorem w_mSeq (h : PA a m) : mSeq (.lst a) m PA := h
theorem w_mSeqF (h : PA a m) : mSeq (.fro a) m PA := h
def mTupI (d : D) (m : MS) (P : List D → MS → Prop) : Prop := match d with
  | .tup xs => P xs m
  | _ => False
theorem w_itup (h : ExG de ds ms fun d m => mTupI d m PA) : iTupD de ds ms PA := h
theorem w_mTupI (h : PA a m) : mTupI (.tup a) m PA := h
def mRng (xs : List D) (m : MS) (P : List D → MS → Prop) : Prop := match xs with
  | [.int j] => (-(2 ^ 62) ≤ j ∧ j < 2 ^ 62) ∧ P (rng 0 j.toNat) m
  | _ => False
theorem w_irng1 (h : ArG aa ds ms fun xs m => mRng xs m PA) : iRange1 aa ds ms PA := h
theorem w_mRng (e : -(2 ^ 62) ≤ j ∧ j < 2 ^ 62) (h : PA (rng 0 j.toNat) m) : mRng [.int j] m PA := ⟨e, h⟩
def mZip (xs : List D) (m : MS) (P : List D → MS → Prop) : Prop := match xs with
  | [.lst a, .lst b] => P (zipD a b) m
  | _ => False
theorem w_izip (h : ArG aa ds ms fun xs m => mZip xs m PA) : iZipD aa ds ms PA := h
theorem w_mZip (h : PA (zipD a c) m) : mZip [.lst a, .lst c] m PA := h
def mEnum (xs : List D) (m : MS) (P : List D → MS → Prop) : Prop := match xs with
  | [.lst a] => P (enumD a) m
  | _ => False
theorem w_ienum (h : ArG aa ds ms fun xs m => mEnum xs m PA) : iEnumD aa ds ms PA := h
theorem w_mEnum (h : PA (enumD a) m) : mEnum [.lst a] m PA := h
theorem w_lc {tt : DT} {te : DE} {vs : List Nat} (e : ∀ d, wipeD d vs = wipeD d vs) (h : ItG di ds ms fun xs m => compD g tt te (wipeD ds vs) xs [] m fun ys m' => P (.lst ys) m') : dLc di g tt te vs ds ms P := h
def mIsi (T : Ty) (d : D) (m : MS) (P : D → MS → Prop) : Prop := match tyD d with
  | some a => P (.bl (subT a T)) m
  | none => False
theorem w_isi {T : Ty} (h : ExG de ds ms fun d m => mIsi T d m P) : dIsi T de ds ms P := h
theorem w_mIsiT {T a : Ty} (e : tyD d = some a) (e2 : subT a T = true) (h : P (.bl true) m) : mIsi T d m P := by unfold mIsi; simp only [e, e2]; exact h
theorem w_mIsiF {T a : Ty} (e : tyD d = some a) (e2 : subT a T = false) (h : P (.bl false) m) : mIsi T d m P := by unfold mIsi; simp only [e, e2]; exact h
def mIsE (ml : List (Str × Bool)) (d : D) (m : MS) (P : D → MS → Prop) : Prop := match d with
  | .exc c _ _ => (match ml.lookup c with
    | some b => P (.bl b) m
    | none => False)
  | _ => False
theorem w_isE {ml : List (Str × Bool)} (h : ExG de ds ms fun d m => mIsE ml d m P) : dIsE ml de ds ms P := h
theorem w_mIsE {ml : List (Str × Bool)} {c : Str} {ns : List Str} {b : Bool} (e : ml.lookup c = some b) (h : P (.bl b) m) : mIsE ml (.exc c ns xs) m P := by unfold mIsE; simp only [e]; exact h
def mFld (ml : List (Str × Bool)) (f : Str) (d : D) (m : MS) (P : D → MS → Prop) : Prop := match d with
  | .exc c ns xs => (ml.lookup c).isSome = true ∧ ∃ y, (ns.zip xs).lookup f = some y ∧ P y m
  | _ => False
theorem w_fld {ml : List (Str × Bool)} {f : Str} (h : ExG de ds ms fun d m => mFld ml f d m P) : dFld ml f de ds ms P := h
theorem w_mFld {ml : List (Str × Bool)} {f c : Str} {ns : List Str} {b : Bool} (e : ml.lookup c = some b) (e2 : (ns.zip xs).lookup f = some y) (h : P y m) : mFld ml f (.exc c ns xs) m P := by unfold mFld; simp only [e]; exact ⟨rfl, y, e2, h⟩
def mApp (aa : DA) (ds : DS) (d : D) (m : MS) (P : D → MS → Prop) : Prop := match d with
  | .opq (.ref p) => (∃ xs0, look m p = some xs0) ∧ aa ds m fun ys m2 => (match ys with
    | [y] => (match look m2 p with
      | some xs => xs.length < sizeLine ∧ P .non (put m2 p (xs ++ [y]))
      | none => False)
    | _ => False)
  | _ => False
def mApp2 (p : Addr) (ys : List D) (m : MS) (P : D → MS → Prop) : Prop := match ys with
  | [y] => (match look m p with
    | some xs => xs.length < sizeLine ∧ P .non (put m p (xs ++ [y]))
    | none => False)
  | _ => False
theorem w_append (h : ExG de ds ms fun d m => mApp aa ds d m P) : dAppend de aa ds ms P := h
theorem w_mApp (e : look m p = some xs) (h : ArG aa ds m fun ys m2 => mApp2 p ys m2 P) : mApp aa ds (.opq (.ref p)) m P := ⟨⟨_, e⟩, h⟩
theorem w_mApp2 {m' : MS} (e : look m p = some xs) (e2 : put m p (xs ++ [y]) = m') (h : xs.length < sizeLine ∧ P .non m') : mApp2 p [y] m P := by unfold mApp2; simp only [e, e2]; exact h
theorem put_new {p : Addr} {xs ys : List D} {m : MS} : put ((p, xs) :: m) p ys = (p, ys) :: m := by unfold put; rw [if_pos rfl]
theorem drp_new {p : Addr} {xs : List D} {m : MS} : drp ((p, xs) :: m) p = m := by unfold drp; rw [if_pos rfl]
def mFrz (d : D) (m : MS) (P : D → MS → Prop) : Prop := match d with
  | .opq (.ref p) => (match look m p with
    | some xs => P (.lst xs) (drp m p)
    | none => False)
  | _ => False
theorem w_frz (h : ExG de ds ms fun d m => mFrz d m P) : dFrz de ds ms P := h
theorem w_mFrz {m' : MS} (e : look m p = some xs) (e2 : drp m p = m') (h : P (.lst xs) m') : mFrz (.opq (.ref p)) m P := by unfold mFrz; simp only [e, e2]; exact h
theorem look_new {p : Addr} {xs : List D} {m : MS} : look ((p, xs) :: m) p = some xs := by unfold look; rw [if_pos rfl]
def mChain (f' : OF) (dc : DE) (ds : DS) (y z : D) (m : MS) (P : D → MS → Prop) : Prop := match z with
  | .bl k => if k = true then dc ds m fun w m4 => f' y w m4 P else P (.bl false) m
  | _ => False
theorem w_chain {f f' : OF} (h : ExG da ds ms fun x m1 => ExG db ds m1 fun y m2 => OpG f x y m2 fun z m3 => mChain f' dc ds y z m3 P) : dChain f f' da db dc ds ms P := h
theorem w_mChain {f' : OF} (h : if b = true then ExG dc ds m fun w m4 => OpG f' y w m4 P else P (.bl false) m) : mChain f' dc ds y (.bl b) m P := h
def mIs (neg : Bool) (x y : D) (m : MS) (P : D → MS → Prop) : Prop := fIsB neg x y m P
theorem w_is (h : mIs false x y ms P) : fIs x y ms P := h
theorem w_notIs (h : mIs true x y ms P) : fNotIs x y ms P := h
theorem w_mIsN {neg z : Bool} (e : nonD x = some z) (h : P (.bl (Bool.xor neg z)) ms) : mIs neg x .non ms P := by unfold mIs fIsB; simp only [e]; exact h
theorem w_mIsB {neg a c : Bool} (h : P (.bl (Bool.xor neg (decide (a = c)))) ms) : mIs neg (.bl a) (.bl c) ms P := h
end
end
section
variable {E : EN} {ds : DS} {ms : MS} {P : D → MS → Prop} {t u : DTS} {de da db : DE} {dt du : DT} {g : DG} {gs : DGs} {aa ak : DA} {di : DI} {d : D} {n k i : Nat} {PT : Bool → MS → Prop} {PS : DS → Prop} {f : OF} {c : CF} {is : List Nat} {fs : FS}
theorem r_nx (h : NxG E ds ms) : E.nx ds ms := h
theorem r_rt (h : RtG E d ms) : E.rt d ms := h
theorem r_seq (h : StG (dSeq t u) E ds ms) : dSeq t u E ds ms := h
theorem r_ret (h : StG (dRet de) E ds ms) : dRet de E ds ms := h
theorem r_ifS (h : StG (dIfS dt t u) E ds ms) : dIfS dt t u E ds ms := h
theorem r_asg (h : StG (dAsg de g) E ds ms) : dAsg de g E ds ms := h
theorem r_drop (h : StG (dDrop de) E ds ms) : dDrop de E ds ms := h
theorem r_for (h : StG (dFor di g t) E ds ms) : dFor di g t E ds ms := h
theorem r_exprZ {dz : ZD → DE} (h : StG (dExprZ dz) E ds ms) : dExprZ dz E ds ms := h
theorem r_name (h : TgG (sName i) d ds PS) : sName i d ds PS := h
theorem r_stup (h : TgG (sTup n gs) d ds PS) : sTup n gs d ds PS := h
theorem r_op (h : ExG (dOp f da db) ds ms P) : dOp f da db ds ms P := h
theorem r_call (h : ExG (dCall n k is fs aa ak) ds ms P) : dCall n k is fs aa ak ds ms P := h
theorem r_cb (h : ExG (dCB c aa) ds ms P) : dCB c aa ds ms P := h
theorem r_var (h : ExG (dVar i) ds ms P) : dVar i ds ms P := h
theorem r_c (h : ExG (dC d) ds ms P) : dC d ds ms P := h
theorem r_tup (h : ExG (dTup aa) ds ms P) : dTup aa ds ms P := h
theorem r_lst (h : ExG (dLst aa) ds ms P) : dLst aa ds ms P := h
theorem r_andV (h : ExG (dAndV da db) ds ms P) : dAndV da db ds ms P := h
theorem r_orV (h : ExG (dOrV da db) ds ms P) : dOrV da db ds ms P := h
theorem r_notV (h : ExG (dNotV da) ds ms P) : dNotV da ds ms P := h
theorem r_if (h : ExG (dIf dt da db) ds ms P) : dIf dt da db ds ms P := h
theorem r_test (h : TsG (dTest da) ds ms PT) : dTest da ds ms PT := h
theorem r_not (h : TsG (dNot dt) ds ms PT) : dNot dt ds ms PT := h
theorem r_and (h : TsG (dAnd dt du) ds ms PT) : dAnd dt du ds ms PT := h
theorem r_or (h : TsG (dOr dt du) ds ms PT) : dOr dt du ds ms PT := h
theorem r_lc {tt : DT} {te : DE} {vs : List Nat} (h : ExG (dLc di g tt te vs) ds ms P) : dLc di g tt te vs ds ms P := h
theorem r_sl {ol oh : DO} (h : ExG (dSl de ol oh) ds ms P) : dSl de ol oh ds ms P := h
theorem r_isi {T : Ty} (h : ExG (dIsi T de) ds ms P) : dIsi T de ds ms P := h
theorem r_chain {f' : OF} {dc : DE} (h : ExG (dChain f f' da db dc) ds ms P) : dChain f f' da db dc ds ms P := h
theorem r_neg (h : ExG (dNeg de) ds ms P) : dNeg de ds ms P := h
end
end DL
namespace DL
open PySem PySem.Spec PyProof.Rows L2
def EN.gone (E : EN) (i : Nat) : EN := { nx := fun ds m => E.nx (ds.set i none) m, rt := E.rt, bk := fun ds m => E.bk (ds.set i none) m, ct := fun ds m => E.ct (ds.set i none) m }
def mTryG (ml : List (Str × Bool)) (i : Nat) (ts : DTS) (E : EN) (c : Str) (ns : List Str) (xs : List D) (ds : DS) (ms : MS) : Prop := match ml.lookup c with
  | some true => ts (EN.gone E i) (setSlot ds i (.exc c ns xs)) ms
  | some false => E.ex c ns xs ds ms
  | none => False
def dTryG (ml : List (Str × Bool)) (i : Nat) (tb ts : DTS) : DTS := fun E ds ms => tb { E with ex := mTryG ml i ts E } ds ms
def dTryG0 (ml : List (Str × Bool)) (i : Nat) (tb ts : DTS) : DTS := fun E ds ms => dTryG ml i tb ts { E with ex := fun _ _ _ _ _ => False } ds ms
section
variable {ml : List (Str × Bool)} {i : Nat} {tb ts : DTS} {E : EN} {ds ds' : DS} {ms : MS} {c : Str} {ns : List Str} {xs : List D} {d : D}
theorem w_tryG (h : StG tb (EN.wx E (mTryG ml i ts E)) ds ms) : dTryG ml i tb ts E ds ms := h
theorem w_tryG0 (h : StG (dTryG ml i tb ts) (EN.wx E fun _ _ _ _ _ => False) ds ms) : dTryG0 ml i tb ts E ds ms := h
theorem w_mTryG (e : ml.lookup c = some true) (e2 : setSlot ds i (.exc c ns xs) = ds') (h : StG ts (EN.gone E i) ds' ms) : mTryG ml i ts E c ns xs ds ms := by
  unfold mTryG; rw [e]; subst e2; exact h
theorem w_mTryGF (e : ml.lookup c = some false) (h : XcG E c ns xs ds ms) : mTryG ml i ts E c ns xs ds ms := by
  unfold mTryG; rw [e]; exact h
theorem n_gone (e : ds.set i none = ds') (h : NxG E ds' ms) : NxG (EN.gone E i) ds ms := by subst e; exact h
theorem t_gone (h : RtG E d ms) : RtG (EN.gone E i) d ms := h
theorem b_gone (e : ds.set i none = ds') (h : BkG E ds' ms) : BkG (EN.gone E i) ds ms := by subst e; exact h
theorem c_gone (e : ds.set i none = ds') (h : CtG E ds' ms) : CtG (EN.gone E i) ds ms := by subst e; exact h
end
def dCallA (n m : Nat) (is : List Nat) (fs : FS) (dd : List D) (aa ak : DA) : DE := fun ds ms P => aa ds ms fun xs m1 => ak ds m1 fun zs m2 => xs.length = n ∧ zs.length = m ∧ fs (pick is (xs ++ (zs ++ dd))) m2 P
def dCallAZ (n m : Nat) (is : List Nat) (fx : FX) (dd : List D) (aa ak : DA) (Z : ZD) : DE := fun ds ms P => aa ds ms fun xs m1 => ak ds m1 fun zs m2 => xs.length = n ∧ zs.length = m ∧ fx (pick is (xs ++ (zs ++ dd))) m2 P fun c ns ys m' => Z c ns ys ds m'
section
variable {n k : Nat} {is : List Nat} {fs : FS} {fx : FX} {dd xs zs ys : List D} {aa ak : DA} {ds : DS} {ms m : MS} {P : D → MS → Prop} {Z : ZD}
def mCallA (n k : Nat) (is : List Nat) (fs : FS) (dd xs zs : List D) (m : MS) (P : D → MS → Prop) : Prop := xs.length = n ∧ zs.length = k ∧ fs (pick is (xs ++ (zs ++ dd))) m P
theorem w_callA (h : ArG aa ds ms fun xs m1 => ArG ak ds m1 fun zs m2 => mCallA n k is fs dd xs zs m2 P) : dCallA n k is fs dd aa ak ds ms P := h
theorem w_mCallA (e1 : xs.length = n) (e2 : zs.length = k) (e : pick is (xs ++ (zs ++ dd)) = ys) (h : fs ys m P) : mCallA n k is fs dd xs zs m P := ⟨e1, e2, by rw [e]; exact h⟩
def mCallAZ (n k : Nat) (is : List Nat) (fx : FX) (dd : List D) (Z : ZD) (ds : DS) (xs zs : List D) (m : MS) (P : D → MS → Prop) : Prop := xs.length = n ∧ zs.length = k ∧ fx (pick is (xs ++ (zs ++ dd))) m P fun c ns ys m' => Z c ns ys ds m'
theorem w_callAZ (h : ArG aa ds ms fun xs m1 => ArG ak ds m1 fun zs m2 => mCallAZ n k is fx dd Z ds xs zs m2 P) : dCallAZ n k is fx dd aa ak Z ds ms P := h
theorem w_mCallAZ (e1 : xs.length = n) (e2 : zs.length = k) (e : pick is (xs ++ (zs ++ dd)) = ys) (h : fx ys m P fun c ns ys m' => Z c ns ys ds m') : mCallAZ n k is fx dd Z ds xs zs m P := ⟨e1, e2, by rw [e]; exact h⟩
end
end DL
namespace DL
open PySem PySem.Spec PyProof.Rows L2
def asT (d : D) (ms : MS) : Option (List D) := match d with
  | .tup xs => some xs
  | d => asL d ms
def aStar (de : DE) (da : DA) : DA := fun ds ms P => de ds ms fun d m1 => match asT d m1 with
  | some xs => da ds m1 fun ys m2 => P (xs ++ ys) m2
  | none => False
end DL
namespace DL
open PySem PySem.Spec PyProof.Rows L2
def dLcM (di : DI) (g : DG) (tt : DT) (te : DE) (vs : List Nat) : DE := fun ds ms P => di ds ms fun xs m => compD g tt te (wipeD ds vs) xs [] m fun ys m' => ∀ p, (∀ q ∈ m', q.1 ≠ p) → P (.opq (.ref p)) ((p, ys) :: m')
section
variable {K : PySem.W.Frag} {di : DI} {dg : DG} {tt : DT} {te : DE} {g : TG} {vs : List Nat}
theorem lift_lcM (hg : TgD K g dg vs) (hm : MonG g) : ∀ σ H Q, lift K (dLcM di dg tt te vs) σ H Q → tLc (liftI K di) g (liftT K tt) (lift K te) vs σ H Q := fun σ H Q ⟨F, ds, ms, P, R, S, h, q⟩ => by
  refine ⟨F, ds, ms, _, R, S, h, fun xs m F0 H0 J p0 R0 s0 wk L hL => ?_⟩
  have nL : F0 L = none := R0.sub.none hL
  have nM : ∀ p ∈ m, p.1 ≠ L := fun p hp => by
    obtain ⟨_, ws, h2, _⟩ := R0.mu p hp
    exact ne_of_none h2 hL
  refine lc_it wk (fun i H1 => ∃ F1 m1 acc av, Rel K F1 H1 m1 ∧ Stp F0 H0 m F1 H1 m1 ∧ H1 L = some (.lst av) ∧ F1 L = none ∧ (∀ p ∈ m1, p.1 ≠ L) ∧ DRs K F1 av acc ∧ compD dg tt te (wipeD ds vs) (xs.drop i) acc m1 fun ys m' => ∀ p, (∀ q ∈ m', q.1 ≠ p) → P (.opq (.ref p)) ((p, ys) :: m'))
    ⟨F0, m, [], [], R0.lay hL, ⟨Sub.refl F0, fun a u h1 _ _ => by rw [upd_ne (ne_of_none h1 hL)]; exact h1, fun _ _ h => .inl h, fun q hq => .inl ⟨q, hq, rfl⟩⟩, upd_same, nL, nM, .nil, p0⟩
    (fun i H1 _ ⟨F1, m1, acc, av, R1, s1, _⟩ => s1.sub.trans R1.sub) ?_ ?_
  · rintro i x H1 H2 hi ⟨F1, m1, acc, av, R1, s1, hD, hF, hM, ra, h1⟩ ⟨d, hd, hy⟩
    rw [drop_get hd] at h1
    have fin : ∀ {F2 : Hp} {x : V}, Rel K F2 H2 m1 → Stp F0 H0 m F2 H2 m1 → Sub F1 F2 → DR K F2 x d → H2 L = some (.lst av) → F2 L = none →
        g x (L2.wipe σ vs) H2 fun σ2 H3 => L2.wipe σ2 vs = L2.wipe σ vs ∧ liftT K tt σ2 H3 fun b H4 => if b = true then lift K te σ2 H4 fun y H5 => ∃ acc, H5 L = some (.lst acc) ∧ acc.length < sizeLine ∧
          (∃ F1 m1 acc' av, Rel K F1 (upd H5 L (.lst (acc ++ [y]))) m1 ∧ Stp F0 H0 m F1 (upd H5 L (.lst (acc ++ [y]))) m1 ∧ (upd H5 L (.lst (acc ++ [y]))) L = some (.lst av) ∧ F1 L = none ∧ (∀ p ∈ m1, p.1 ≠ L) ∧ DRs K F1 av acc' ∧ compD dg tt te (wipeD ds vs) (xs.drop (i + 1)) acc' m1 fun ys m' => ∀ p, (∀ q ∈ m', q.1 ≠ p) → P (.opq (.ref p)) ((p, ys) :: m'))
          else ∃ F1 m1 acc av, Rel K F1 H4 m1 ∧ Stp F0 H0 m F1 H4 m1 ∧ H4 L = some (.lst av) ∧ F1 L = none ∧ (∀ p ∈ m1, p.1 ≠ L) ∧ DRs K F1 av acc ∧ compD dg tt te (wipeD ds vs) (xs.drop (i + 1)) acc m1 fun ys m' => ∀ p, (∀ q ∈ m', q.1 ≠ p) → P (.opq (.ref p)) ((p, ys) :: m') := by
      intro F2 x R2 s2 s12 rx hD2 hF2
      have hw := hg.wip x (L2.wipe σ vs) H2 _ (hg.snd x (L2.wipe σ vs) F2 H2 (fun σ2 H3 => H3 = H2 ∧ ∃ ds2, Sl K F2 σ2 ds2 ∧ tt ds2 m1 fun b m3 => if b = true then te ds2 m3 fun y m4 => acc.length < sizeLine ∧ compD dg tt te (wipeD ds vs) (xs.drop (i + 1)) (acc ++ [y]) m4 fun ys m' => ∀ p, (∀ q ∈ m', q.1 ≠ p) → P (.opq (.ref p)) ((p, ys) :: m') else compD dg tt te (wipeD ds vs) (xs.drop (i + 1)) acc m3 fun ys m' => ∀ p, (∀ q ∈ m', q.1 ≠ p) → P (.opq (.ref p)) ((p, ys) :: m')) d (wipeD ds vs) _ R2.sub ((S.wipe vs).mono (s0.sub.trans s2.sub)) rx h1 fun ds2 σ2 h2 S2 => ⟨rfl, ds2, S2, h2⟩)
      refine hm _ _ _ _ _ ?_ hw
      rintro σ2 H3 ⟨e1, rfl, ds2, S2, h2⟩
      refine ⟨e1.trans (wipe_wipe fun u hu => hu), F2, ds2, m1, _, R2, S2, h2, fun b m4 F4 H4 p4 R4 s4 => ?_⟩
      obtain ⟨hD4, hF4, hM4⟩ := s4.kp hD2 hF2 hM
      cases b with
      | false =>
        rw [if_neg Bool.false_ne_true] at p4 ⊢
        exact ⟨F4, m4, acc, av, R4, s2.trans s4, hD4, hF4, hM4, (ra.mono s12).mono s4.sub, p4⟩
      | true =>
        rw [if_pos rfl] at p4 ⊢
        refine ⟨F4, ds2, m4, _, R4, S2.mono s4.sub, p4, fun y m5 v5 F5 H5 p5 R5 s5 r5 => ?_⟩
        obtain ⟨hD5, hF5, hM5⟩ := s5.kp hD4 hF4 hM4
        have ra5 := ((ra.mono s12).mono s4.sub).mono s5.sub
        have s05 := (s2.trans s4).trans s5
        refine ⟨av, hD5, by rw [ra.length]; exact p5.1, F5, m5, acc ++ [y], av ++ [v5], ?_, ?_, upd_same, hF5, hM5, ra5.append (.cons r5 .nil), p5.2⟩
        · refine ⟨fun b u e => ?_, fun p hp => ?_, R5.nd, R5.one⟩
          · rw [upd_ne (fun z => by rw [z, hF5] at e; cases e)]; exact R5.sub b u e
          · obtain ⟨z1, ws, z2, z3⟩ := R5.mu p hp
            exact ⟨z1, ws, by rw [upd_ne (hM5 p hp)]; exact z2, z3⟩
        · exact ⟨s05.sub, fun a u z1 z2 z3 => by rw [upd_ne (ne_of_none z1 hL)]; exact s05.keep a u z1 z2 z3, s05.newF, s05.newM⟩
    rcases hy with ⟨rfl, rx⟩ | ⟨T, a, b, da, db, rfl, hT, rfl, rfl, ra', rb'⟩
    · exact fin R1 s1 (Sub.refl F1) (rx.mono s1.sub) hD hF
    · have hne : L ≠ T := ne_of_none hD hT
      exact fin (R1.new hT) (s1.trans (Stp.new R1 hT)) (Sub.new (R1.sub.none hT)) (R1.newTup hT (.cons (ra'.mono s1.sub) (.cons (rb'.mono s1.sub) .nil))) (by rw [upd_ne hne]; exact hD) (by rw [upd_ne hne]; exact hF)
  · rintro H1 ⟨F1, m1, acc, av, R1, s1, hD, hF, hM, ra, h1⟩
    rw [List.drop_length] at h1
    refine q _ ((L, acc) :: m1) (.ref L) F1 H1 (h1 L hM) ?_ (s0.trans ?_) (.opq _)
    · refine ⟨R1.sub, fun p hp => ?_, ?_, R1.one⟩
      · rcases List.mem_cons.mp hp with rfl | hp
        · exact ⟨hF, av, hD, ra⟩
        · exact R1.mu p hp
      · rw [List.map_cons, List.nodup_cons]
        refine ⟨fun hm => ?_, R1.nd⟩
        obtain ⟨q, hq, e⟩ := List.mem_map.mp hm
        exact hM q hq e
    · refine ⟨s1.sub, s1.keep, s1.newF, fun p hp => ?_⟩
      rcases List.mem_cons.mp hp with rfl | hp
      · exact .inr (.inl hL)
      · exact s1.newM p hp
end
section
variable {X : Cx} {elt tg iter : Expr} {ifs : List Expr} {scope : Scope} {own : List (Str × Nat)} {pos spos py : Pos} {di : DI} {g : TG} {dg : DG} {tt : DT} {te : DE} {i : Nat} {y : Str}
theorem pd_lcM (hc : X.calm = true) (hN : X.N.Nodup) (hi : PDI X tg iter di) (ok : BlkOk X.N X.env.scope scope own)
    (hg : ∀ (s : Shared) (H : Hp) (C : Addr) (cl : List (Str × Addr)) (fp : List Addr), PG (X.blk s H scope (compEnvC scope cl C X.env) fp) tg g)
    (hd : TgD X.K g dg (own.map (·.2))) (hm : MonG g)
    (ht : ∀ (s : Shared) (H : Hp) (C : Addr) (cl : List (Str × Addr)) (fp : List Addr), PDTs (X.blk s H scope (compEnvC scope cl C X.env) fp) ifs tt)
    (he : ∀ (s : Shared) (H : Hp) (C : Addr) (cl : List (Str × Addr)) (fp : List Addr), PD (X.blk s H scope (compEnvC scope cl C X.env) fp) elt te)
    (hs : ∀ x, foldedSetIterable iter X.env x = pure x := by intro _; rfl) :
    PD X (.ListComp elt [⟨tg, iter, ifs, 0⟩] scope pos) (dLcM di dg tt te (own.map (·.2))) :=
  peImp (pe_lc hc hN hi ok hg ht he hs) (lift_lcM hd hm)
theorem pds_setLcM (hc : X.calm = true) (hN : X.N.Nodup) (hy : X.N[i]? = some y) (hyl : X.env.scope.names.lookup y = some .local)
    (hsw : swapsWith (.ListComp elt [⟨tg, iter, ifs, 0⟩] scope pos) (some (.Name y py)) spos.line X.env = pure true) (hi : PDI X tg iter di) (ok : BlkOk X.N X.env.scope scope own)
    (hg : ∀ (s : Shared) (H : Hp) (C : Addr) (cl : List (Str × Addr)) (fp : List Addr), PG (X.blk s H scope (compEnvC scope cl C X.env) fp) tg g)
    (hd : TgD X.K g dg (own.map (·.2))) (hm : MonG g)
    (ht : ∀ (s : Shared) (H : Hp) (C : Addr) (cl : List (Str × Addr)) (fp : List Addr), PDTs (X.blk s H scope (compEnvC scope cl C X.env) fp) ifs tt)
    (he : ∀ (s : Shared) (H : Hp) (C : Addr) (cl : List (Str × Addr)) (fp : List Addr), PD (X.blk s H scope (compEnvC scope cl C X.env) fp) elt te)
    (hs : ∀ x, foldedSetIterable iter X.env x = pure x := by intro _; rfl) :
    PDS X (.Assign [.Name y py] (.ListComp elt [⟨tg, iter, ifs, 0⟩] scope pos) spos) (dAsg (dLcM di dg tt te (own.map (·.2))) (sName i)) :=
  psImp (ps_setLc hc hN hy hyl hsw hi ok hg ht he hs) fun D σ H h => by
    obtain ⟨F, ds, ms, P, R, S, z1, z2⟩ := h
    exact lift_lcM hd hm σ H _ ⟨F, ds, ms, _, R, S, z1, fun d m v F1 H1 p1 R1 s1 r1 => z2.1 _ m _ F1 H1 p1 R1 s1 ((S.mono s1.sub).set r1 i)⟩
end
/-- a + b, lists, written to -/
def fAddM : OF := fun x y ms P => match x, y with
  | .lst a, .lst b => a.length + b.length ≤ sizeLine ∧ ∀ p, (∀ q ∈ ms, q.1 ≠ p) → P (.opq (.ref p)) ((p, a ++ b) :: ms)
  | _, _ => False
theorem opd_addM {K : PySem.W.Frag} : OpD K (rAddD K) fAddM := by
  intro F H ms x y dx dy P Q R rx ry h q
  cases rx with
  | lst h1 r1 => cases ry with
    | lst h2 r2 =>
      refine .inr (.inr (.inl ⟨_, _, _, _, rfl, rfl, R.sub _ _ h1, R.sub _ _ h2, by rw [r1.length, r2.length]; exact h.1, fun p hp => ?_⟩))
      exact q _ _ _ F _ (h.2 p (R.newMut hp (r1.append r2)).1) (R.newMut hp (r1.append r2)).2 (Stp.newMut hp) (.opq _)
    | _ => exact h.elim
  | _ => exact h.elim
/-- list(x), written to -/
def cListM : CF := fun xs ms P => match xs with
  | [.tup ys] => ∀ p, (∀ q ∈ ms, q.1 ≠ p) → P (.opq (.ref p)) ((p, ys) :: ms)
  | [.lst ys] => ∀ p, (∀ q ∈ ms, q.1 ≠ p) → P (.opq (.ref p)) ((p, ys) :: ms)
  | _ => False
theorem cal_listM {K : PySem.W.Frag} : CalD K (fun xs H Q => ∃ p ys, xs = [.ref p] ∧ (SqL K H p ys ∨ SqT K H p ys) ∧ ∀ l, H l = none → Q (.ref l) (upd H l (.lst ys))) cListM := fun F H ms vs xs P Q R r h q => by
  match xs, r, h with
  | a :: _ :: _, _, h => cases a <;> exact h.elim
  | [d], .cons (v := v) rd .nil, h =>
    cases rd with
    | tup ha hs => exact ⟨_, _, rfl, .inr (R.sub.sqT ha), fun l hl => q _ _ _ F _ (h l (R.newMut hl hs).1) (R.newMut hl hs).2 (Stp.newMut hl) (.opq _)⟩
    | lst ha hs => exact ⟨_, _, rfl, .inl (SqL.of (R.sub _ _ ha)), fun l hl => q _ _ _ F _ (h l (R.newMut hl hs).1) (R.newMut hl hs).2 (Stp.newMut hl) (.opq _)⟩
    | _ => exact h.elim
theorem w_listM_t {ys : List D} {ms : MS} {P : D → MS → Prop} (h : ∀ p, (∀ q ∈ ms, q.1 ≠ p) → P (.opq (.ref p)) ((p, ys) :: ms)) : cListM [.tup ys] ms P := h
theorem w_listM_l {ys : List D} {ms : MS} {P : D → MS → Prop} (h : ∀ p, (∀ q ∈ ms, q.1 ≠ p) → P (.opq (.ref p)) ((p, ys) :: ms)) : cListM [.lst ys] ms P := h
/-- ahead of a statement a list that changes no more is made fast -/
def dFrzS (i : Nat) (t : DTS) : DTS := fun E ds ms => match slot ds i with
  | some (.opq (.ref p)) => (match look ms p with
    | some xs => t E (setSlot ds i (.lst xs)) (drp ms p)
    | none => False)
  | _ => False
theorem setSlot_σ : ∀ {K : PySem.W.Frag} {F : Hp} {σ : L2.St} {ds : DS} {i : Nat} {v : V} {d : D}, Sl K F σ ds → σ[i]? = some (some v) → DR K F v d → Sl K F σ (setSlot ds i d)
  | _, _, _, _, i, _, _, .nil, _, _ => by cases i <;> exact .nil
  | _, _, _, _, 0, _, _, .sm h r, e, q => by cases e; exact .sm q r
  | _, _, _, _, 0, _, _, .nn r, e, q => by
    have e' := Option.some.inj e
    subst e'
    exact .sm q r
  | _, _, _, _, i + 1, _, _, .sm h r, e, q => .sm h (setSlot_σ (i := i) r e q)
  | _, _, _, _, i + 1, _, _, .nn r, e, q => .nn (setSlot_σ (i := i) r e q)
theorem liftS_frz {K : PySem.W.Frag} {t : DTS} {i : Nat} : ∀ D σ H, liftS K (dFrzS i t) D σ H → liftS K t D σ H := fun D σ H ⟨F, ds, ms, E, R, S, h, n, r, k, q⟩ => by
  unfold dFrzS at h
  split at h
  · rename_i p e
    split at h
    · rename_i xs e1
      obtain ⟨v, hv, hr⟩ := S.get e
      cases hr
      obtain ⟨vs, z1, z2, z3⟩ := relFrz R e1
      exact ⟨_, _, _, E, z1, setSlot_σ (S.mono z2.sub) hv z3, h, fun ds' m' σ' F' H' h' R' s' S' => n ds' m' σ' F' H' h' R' (z2.trans s') S', fun d m' v' F' H' h' R' s' r' => r d m' v' F' H' h' R' (z2.trans s') r',
        fun ds' m' σ' F' H' h' R' s' S' => k ds' m' σ' F' H' h' R' (z2.trans s') S', fun ds' m' σ' F' H' h' R' s' S' => q ds' m' σ' F' H' h' R' (z2.trans s') S'⟩
    · exact h.elim
  · exact h.elim
theorem pds_frz {X : Cx} {st : Stmt} {t : DTS} {i : Nat} (h : PDS X st t) : PDS X st (dFrzS i t) := psImp h liftS_frz
theorem w_frzS {t : DTS} {E : EN} {ds ds' : DS} {ms ms' : MS} {i : Nat} {p : Addr} {xs : List D} (e : slot ds i = some (.opq (.ref p))) (e1 : look ms p = some xs) (e2 : setSlot ds i (.lst xs) = ds') (e3 : drp ms p = ms') (h : StG t E ds' ms') : dFrzS i t E ds ms := by
  unfold dFrzS; simp only [e, e1, e2, e3]; exact h
theorem w_lcM {di : DI} {g : DG} {tt : DT} {te : DE} {vs : List Nat} {ds : DS} {ms : MS} {P : D → MS → Prop} (h : ItG di ds ms fun xs m => compD g tt te (wipeD ds vs) xs [] m fun ys m' => ∀ p, (∀ q ∈ m', q.1 ≠ p) → P (.opq (.ref p)) ((p, ys) :: m')) : dLcM di g tt te vs ds ms P := h
theorem w_addM {a c : List D} {ms : MS} {P : D → MS → Prop} (h : a.length + c.length ≤ sizeLine ∧ ∀ p, (∀ q ∈ ms, q.1 ≠ p) → P (.opq (.ref p)) ((p, a ++ c) :: ms)) : fAddM (.lst a) (.lst c) ms P := h
mutual
def flat : D → Bool
  | .non => true
  | .bl _ => true
  | .int _ => true
  | .str _ => true
  | .tup xs => flats xs
  | .opq _ => true
  | .lst _ => false
  | .fro _ => false
  | .edic => false
  | .dct _ => false
  | .exc _ _ _ => false
def flats : List D → Bool
  | [] => true
  | x :: r => flat x && flats r
end
def flatM (ms : MS) : Prop := ∀ q ∈ ms, flats q.2 = true
mutual
theorem DR.flat {K : PySem.W.Frag} {F F' : Hp} (e : ∀ b vs, (F b = some (.tup vs) → F' b = some (.tup vs)) ∧ ∀ o, F b = some (.frz o (.tup vs)) → F' b = some (.frz o (.tup vs))) : ∀ {v : V} {d : D}, flat d = true → DR K F v d → DR K F' v d
  | _, _, _, .non => .non
  | _, _, _, .bl b => .bl b
  | _, _, _, .int i => .int i
  | _, _, _, .str x => .str x
  | _, _, h, .tup (a := a) (xs := xs) hq hs => .tup (by
      rcases hq with (h1 | ⟨o, h1⟩) | h1
      · exact .inl (.inl ((e _ _).1 h1))
      · exact .inl (.inr ⟨o, (e _ _).2 o h1⟩)
      · exact .inr h1) (DRs.flat e h hs)
  | _, _, _, .opq v => .opq v
  | _, _, h, .lst _ _ => by cases h
  | _, _, h, .fro _ _ => by cases h
  | _, _, h, .edic _ => by cases h
  | _, _, h, .dct _ => by cases h
  | _, _, h, .exc _ _ _ _ => by cases h
theorem DRs.flat {K : PySem.W.Frag} {F F' : Hp} (e : ∀ b vs, (F b = some (.tup vs) → F' b = some (.tup vs)) ∧ ∀ o, F b = some (.frz o (.tup vs)) → F' b = some (.frz o (.tup vs))) : ∀ {vs : List V} {ds : List D}, flats ds = true → DRs K F vs ds → DRs K F' vs ds
  | _, _, _, .nil => .nil
  | _, _, h, .cons h1 h2 => .cons (DR.flat e (Bool.and_eq_true_iff.mp h).1 h1) (DRs.flat e (Bool.and_eq_true_iff.mp h).2 h2)
end
def dLoan (i : Nat) (de : DE) : DE := fun ds ms P => match slot ds i with
  | some (.opq (.ref p)) => (match look ms p with
    | some xs => de (setSlot ds i (.lst xs)) (drp ms p) fun d m => flat d = true ∧ flatM m ∧ P d ((p, xs) :: m)
    | none => False)
  | _ => False
theorem w_loan {i : Nat} {de : DE} {ds ds' : DS} {ms ms' : MS} {P : D → MS → Prop} {p : Addr} {xs : List D} (e : slot ds i = some (.opq (.ref p))) (e1 : look ms p = some xs) (e2 : setSlot ds i (.lst xs) = ds') (e3 : drp ms p = ms') (h : ExG de ds' ms' fun d m => flat d = true ∧ flatM m ∧ P d ((p, xs) :: m)) : dLoan i de ds ms P := by
  unfold dLoan; simp only [e, e1, e2, e3]; exact h
def mSetIx (E : EN) (ds : DS) (v o i : D) (m3 : MS) : Prop := match o, i with
  | .opq (.ref p), .int k => (match look m3 p with
    | some xs => (match ixN xs.length k with
      | some j => E.nx ds (put m3 p (xs.set j v))
      | none => False)
    | none => False)
  | _, _ => False
theorem w_setIx {do_ di dv : DE} {E : EN} {ds : DS} {ms : MS} (h : ExG dv ds ms fun v m1 => ExG do_ ds m1 fun o m2 => ExG di ds m2 fun i m3 => mSetIx E ds v o i m3) : dSetIx do_ di dv E ds ms := h
theorem w_mSetIx {E : EN} {ds : DS} {v : D} {p : Addr} {k : Int} {m m' : MS} {xs : List D} {j : Nat} (e : look m p = some xs) (e2 : ixN xs.length k = some j) (e3 : put m p (xs.set j v) = m') (h : NxG E ds m') : mSetIx E ds v (.opq (.ref p)) (.int k) m := by
  unfold mSetIx; simp only [e, e2, e3]; exact h
end DL
namespace DL
open PySem PySem.Spec PyProof.Rows L2
/-- C(..), an own class without an __init__ -/
def dMk0 (c : Str) (aa : DA) : DE := fun ds ms P => aa ds ms fun xs m => xs.length ≤ sizeLine ∧ P (.exc c [] []) m
/-- C(..), an own class that keeps its arguments -/
def dMkI (c : Str) (fs : List Str) (aa : DA) : DE := fun ds ms P => aa ds ms fun xs m => xs.length = fs.length ∧ P (.exc c fs xs) m
structure CntOk (a : List D) (d : D) (n : Nat) : Prop where
  ex : ∃ ps q, toPys a = some ps ∧ toPy d = some q ∧ PyData.plainAll ps = true ∧ q.plain = true ∧ q.depth ≤ 60 ∧ n = ps.countP fun y => PyData.eqv y q
def dCount (dx : DE) (aa : DA) : DE := fun ds ms P => dx ds ms fun x m1 => match x with
  | .lst a => aa ds m1 fun ys m2 => (match ys with
    | [y] => ∃ n, CntOk a y n ∧ P (.int n) m2
    | _ => False)
  | _ => False
def kitAll (K : PySem.W.Frag) (cw : Value) (l : List (Addr × Bool)) : Bool := l.all fun p => decide (PySem.W.kitOne K (.ref p.1) cw = some p.2)
section
variable {K : PySem.W.Frag} {cw : Value} {c : Str} {C : Addr} {b : Bool} {l : List (Addr × Bool)} {ml : List (Str × Bool)}
theorem mlK_n : kitAll K cw [] = true → MlK K cw [] := fun _ => mlK_nil
theorem mlK_c (E1 : ExB K c C) (r : kitAll K cw l = true → MlK K cw ml) : kitAll K cw ((C, b) :: l) = true → MlK K cw ((c, b) :: ml) := fun h => by
  obtain ⟨h1, h2⟩ := Bool.and_eq_true_iff.mp h
  exact mlK_b E1 (of_decide_eq_true h1) (r h2)
end
section
variable {ds : DS} {ms m : MS} {P : D → MS → Prop} {aa : DA} {dx : DE} {c : Str} {fs : List Str} {xs ys : List D} {A : Prop} {α β : Type} {u : List α} {v : List β}
theorem w_mk0 (h : ArG aa ds ms fun xs m => xs.length ≤ sizeLine ∧ P (.exc c [] []) m) : dMk0 c aa ds ms P := h
theorem w_mkI (h : ArG aa ds ms fun xs m => xs.length = fs.length ∧ P (.exc c fs xs) m) : dMkI c fs aa ds ms P := h
theorem w_lenq (e : u.length = v.length) (h : A) : u.length = v.length ∧ A := ⟨e, h⟩
def mCnt (aa : DA) (ds : DS) (x : D) (m : MS) (P : D → MS → Prop) : Prop := match x with
  | .lst a => aa ds m fun ys m2 => (match ys with
    | [y] => ∃ n, CntOk a y n ∧ P (.int n) m2
    | _ => False)
  | _ => False
def mCnt2 (a ys : List D) (m : MS) (P : D → MS → Prop) : Prop := match ys with
  | [y] => ∃ n, CntOk a y n ∧ P (.int n) m
  | _ => False
theorem w_count (h : ExG dx ds ms fun x m => mCnt aa ds x m P) : dCount dx aa ds ms P := h
theorem w_mCnt (h : ArG aa ds m fun ys m2 => mCnt2 xs ys m2 P) : mCnt aa ds (.lst xs) m P := h
end
end DL
namespace DL
open PySem PySem.Spec PyProof.Rows L2
abbrev MF := Str → List D → MS → (D → MS → Prop) → Prop
def dM1 (f : MF) (dx dy : DE) : DE := fun ds ms P => dx ds ms fun x m1 => match x with
  | .str a => dy ds m1 fun y m2 => f a [y] m2 P
  | _ => False
def mPart : MF := fun a ys ms P => match ys with
  | [.str b] => (b.length == 0) = false ∧ a.length ≤ sizeLine ∧ P (.tup [.str (Txt.partition a b).1, .str (Txt.partition a b).2.1, .str (Txt.partition a b).2.2]) ms
  | _ => False
def mStarts : MF := fun a ys ms P => match ys with
  | [.str b] => P (.bl (Txt.startswith a b)) ms
  | _ => False
def mEnds : MF := fun a ys ms P => match ys with
  | [.str b] => P (.bl (Txt.endswith a b)) ms
  | _ => False
def mSplit : MF := fun a ys ms P => match ys with
  | [.str b] => (b.length == 0) = false ∧ a.length + 2 ≤ sizeLine ∧ P (.lst ((Txt.split a b).map D.str)) ms
  | _ => False
def mZfill : MF := fun a ys ms P => match ys with
  | [.int i] => PadOk i = true ∧ P (.str (Txt.zfill a i)) ms
  | _ => False
def mRemSuf : MF := fun a ys ms P => match ys with
  | [.str b] => a.length ≤ sizeLine ∧ P (.str (Txt.removesuffix a b)) ms
  | _ => False
def dJoinRev (dx dy : DE) : DE := fun ds ms P => dx ds ms fun x m1 => match x with
  | .str a => dy ds m1 fun y m2 => ∃ zs : List Str, asL y m2 = some (zs.map D.str) ∧ (zs.reverse.map (·.length)).sum + zs.reverse.length * a.length ≤ 16777216 ∧ P (.str (Txt.join a zs.reverse)) m2
  | _ => False
def cDivmod : CF := fun xs ms P => match xs with
  | [.int i, .int j] => CDivP i j ∧ P (.tup [.int (i / j), .int (i % j)]) ms
  | _ => False
def fInS (neg : Bool) : OF := fun x y ms P => match x, y with
  | .str a, .str z => ∃ c : Nat, a = ⟨#[c]⟩ ∧ P (.bl (Bool.xor neg (decide (c ∈ z.cps.toList)))) ms
  | _, _ => False
def fInSign : OF := fInS false
def fNotInSign : OF := fInS true
theorem opd_inSign {K : PySem.W.Frag} : OpD K (fun x y H Q => ∃ (c : Nat) (z : Str), x = .str ⟨#[c]⟩ ∧ y = .str z ∧ Q (.bl (decide (c ∈ z.cps.toList))) H) fInSign := fun F H ms x y dx dy P Q R rx ry h q => by
  match dx, dy, h, rx, ry with
  | .str a, .str z, ⟨c, e, h⟩, .str _, .str _ => subst e; exact ⟨c, z, rfl, rfl, by simpa using q _ ms _ F H h R Stp.refl (.bl _)⟩
def dFmt (de : DE) : DE := fun ds ms P => de ds ms fun x m => match x with
  | .str y => y.length ≤ sizeLine ∧ P (.str y) m
  | .int i => i.natAbs.log2 < 1920 ∧ P (.str (toString i)) m
  | _ => False
inductive PDJ (X : Cx) : List Expr → List DE → Prop where
  | nil : PDJ X [] []
  | cons {e : Expr} {t : DE} {es : List Expr} {ts : List DE} (h : PD X e t) (r : PDJ X es ts) : PDJ X (e :: es) (t :: ts)
theorem PDJ.pj {X : Cx} {es : List Expr} {ts : List DE} (h : PDJ X es ts) : PJ X es (ts.map (lift X.K)) := by
  induction h with
  | nil => exact .nil
  | cons h r ih => exact .cons h ih
def jsD : List DE → Str → DS → MS → (Str → MS → Prop) → Prop
  | [], acc, _, ms, P => P acc ms
  | t :: ts, acc, ds, ms, P => t ds ms fun x m => match x with
    | .str y => (acc ++ y).length ≤ sizeLine ∧ jsD ts (acc ++ y) ds m P
    | _ => False
def dJoined (ts : List DE) : DE := fun ds ms P => jsD ts Str.empty ds ms fun out m => P (.str out) m
section
variable {ds : DS} {ms m : MS} {P : D → MS → Prop} {dx dy de : DE} {f : MF} {a b z : Str} {i j : Int} {zs : List Str} {ts : List DE} {y d : D}
def mM1 (f : MF) (dy : DE) (ds : DS) (x : D) (m : MS) (P : D → MS → Prop) : Prop := match x with
  | .str a => dy ds m fun y m2 => f a [y] m2 P
  | _ => False
def MtG (f : MF) (a : Str) (ys : List D) (m : MS) (P : D → MS → Prop) : Prop := f a ys m P
theorem w_m1 (h : ExG dx ds ms fun x m => mM1 f dy ds x m P) : dM1 f dx dy ds ms P := h
theorem w_mM1 (h : ExG dy ds m fun y m2 => MtG f a [y] m2 P) : mM1 f dy ds (.str a) m P := h
theorem w_part (h : (b.length == 0) = false ∧ a.length ≤ sizeLine ∧ P (.tup [.str (Txt.partition a b).1, .str (Txt.partition a b).2.1, .str (Txt.partition a b).2.2]) ms) : MtG mPart a [.str b] ms P := h
theorem w_starts (h : P (.bl (Txt.startswith a b)) ms) : MtG mStarts a [.str b] ms P := h
theorem w_ends (h : P (.bl (Txt.endswith a b)) ms) : MtG mEnds a [.str b] ms P := h
theorem w_split (h : (b.length == 0) = false ∧ a.length + 2 ≤ sizeLine ∧ P (.lst ((Txt.split a b).map D.str)) ms) : MtG mSplit a [.str b] ms P := h
theorem w_zfill (h : PadOk i = true ∧ P (.str (Txt.zfill a i)) ms) : MtG mZfill a [.int i] ms P := h
theorem w_remSuf (h : a.length ≤ sizeLine ∧ P (.str (Txt.removesuffix a b)) ms) : MtG mRemSuf a [.str b] ms P := h
def mJr (dy : DE) (ds : DS) (x : D) (m : MS) (P : D → MS → Prop) : Prop := match x with
  | .str a => dy ds m fun y m2 => ∃ zs : List Str, asL y m2 = some (zs.map D.str) ∧ (zs.reverse.map (·.length)).sum + zs.reverse.length * a.length ≤ 16777216 ∧ P (.str (Txt.join a zs.reverse)) m2
  | _ => False
def mJr2 (a : Str) (y : D) (m : MS) (P : D → MS → Prop) : Prop := ∃ zs : List Str, asL y m = some (zs.map D.str) ∧ (zs.reverse.map (·.length)).sum + zs.reverse.length * a.length ≤ 16777216 ∧ P (.str (Txt.join a zs.reverse)) m
theorem w_joinRev (h : ExG dx ds ms fun x m => mJr dy ds x m P) : dJoinRev dx dy ds ms P := h
theorem w_mJr (h : ExG dy ds m fun y m2 => mJr2 a y m2 P) : mJr dy ds (.str a) m P := h
theorem w_divmod (h : CDivP i j ∧ P (.tup [.int (i / j), .int (i % j)]) ms) : cDivmod [.int i, .int j] ms P := h
theorem w_inSign {c : Nat} (h : P (.bl (decide (c ∈ z.cps.toList))) ms) : fInSign (.str ⟨#[c]⟩) (.str z) ms P := ⟨c, rfl, by simpa using h⟩
theorem w_notInSign {c : Nat} (h : P (.bl (!decide (c ∈ z.cps.toList))) ms) : fNotInSign (.str ⟨#[c]⟩) (.str z) ms P := ⟨c, rfl, by simpa using h⟩
def mFmt (x : D) (m : MS) (P : D → MS → Prop) : Prop := match x with
  | .str y => y.length ≤ sizeLine ∧ P (.str y) m
  | .int i => i.natAbs.log2 < 1920 ∧ P (.str (toString i)) m
  | _ => False
theorem w_fmt (h : ExG de ds ms fun x m => mFmt x m P) : dFmt de ds ms P := h
theorem w_mFmtS (h : a.length ≤ sizeLine ∧ P (.str a) m) : mFmt (.str a) m P := h
theorem w_mFmtI (h : i.natAbs.log2 < 1920 ∧ P (.str (toString i)) m) : mFmt (.int i) m P := h
def JsG (ts : List DE) (acc : Str) (ds : DS) (ms : MS) (P : Str → MS → Prop) : Prop := jsD ts acc ds ms P
def mJs (ts : List DE) (acc : Str) (ds : DS) (x : D) (m : MS) (P : Str → MS → Prop) : Prop := match x with
  | .str y => (acc ++ y).length ≤ sizeLine ∧ jsD ts (acc ++ y) ds m P
  | _ => False
theorem w_joined (h : JsG ts Str.empty ds ms fun out m => P (.str out) m) : dJoined ts ds ms P := h
theorem w_jsN {P : Str → MS → Prop} (h : P a ms) : JsG [] a ds ms P := h
theorem w_jsC {P : Str → MS → Prop} (h : ExG de ds ms fun x m => mJs ts a ds x m P) : JsG (de :: ts) a ds ms P := h
theorem w_mJs {P : Str → MS → Prop} (h : (a ++ b).length ≤ sizeLine ∧ JsG ts (a ++ b) ds m P) : mJs ts a ds (.str b) m P := h
end
end DL
namespace DL
open PySem PySem.Spec PyProof.Rows L2
def maxOf : List Int → Int → Int
  | [], d => d
  | n :: r, _ => r.foldl max n
def dMaxDef (aa ak : DA) : DE := fun ds ms P => aa ds ms fun xs m1 => ak ds m1 fun zs m2 => match xs, zs with
  | [.lst ys], [.int d] => ∃ ns : List Int, ys = ns.map D.int ∧ P (.int (maxOf ns d)) m2
  | _, _ => False
section
variable {ds : DS} {ms m : MS} {P : D → MS → Prop} {aa ak : DA}
def mMaxD (xs zs : List D) (m : MS) (P : D → MS → Prop) : Prop := match xs, zs with
  | [.lst ys], [.int d] => ∃ ns : List Int, ys = ns.map D.int ∧ P (.int (maxOf ns d)) m
  | _, _ => False
theorem w_maxDef (h : ArG aa ds ms fun xs m1 => ArG ak ds m1 fun zs m2 => mMaxD xs zs m2 P) : dMaxDef aa ak ds ms P := h
theorem w_mMaxD {ns : List Int} {d : Int} (h : P (.int (maxOf ns d)) m) : mMaxD [.lst (ns.map D.int)] [.int d] m P := ⟨ns, rfl, h⟩
end
section
variable {E : EN} {ds : DS} {ms : MS} {P : D → MS → Prop} {t : DTS} {de da db dc : DE} {g : DG} {aa : DA} {di : DI} {i : Nat} {f : MF} {ts : List DE}
theorem r_frzS (h : StG (dFrzS i t) E ds ms) : dFrzS i t E ds ms := h
theorem r_setIx (h : StG (dSetIx da db dc) E ds ms) : dSetIx da db dc E ds ms := h
theorem r_lcM {tt : DT} {te : DE} {vs : List Nat} (h : ExG (dLcM di g tt te vs) ds ms P) : dLcM di g tt te vs ds ms P := h
theorem r_m1 (h : ExG (dM1 f da db) ds ms P) : dM1 f da db ds ms P := h
theorem r_joined (h : ExG (dJoined ts) ds ms P) : dJoined ts ds ms P := h
theorem r_frz (h : ExG (dFrz de) ds ms P) : dFrz de ds ms P := h
theorem r_append (h : ExG (dAppend de aa) ds ms P) : dAppend de aa ds ms P := h
end
end DL
namespace DL
open PySem PySem.Spec PyProof.Rows L2 SX TL NumText
theorem cutL_to {α : Type} (l : List α) (i : Int) (h : 0 ≤ i) : cutL l none (some i) = l.take i.toNat := by
  obtain ⟨n, rfl⟩ := Int.eq_ofNat_of_zero_le h
  unfold cutL
  rw [show HT.sIx l.length l.length (some (n : Int)) = min n l.length from HT.sIx_nat _ _ n, HT.sIx_none, Int.toNat_natCast]
  show List.take (min n l.length - 0) (l.drop 0) = _
  rw [List.drop_zero, Nat.sub_zero, ← List.take_eq_take_min]
theorem cutL_from {α : Type} (l : List α) (i : Int) (h : 0 ≤ i) : cutL l (some i) none = l.drop i.toNat := by
  obtain ⟨n, rfl⟩ := Int.eq_ofNat_of_zero_le h
  unfold cutL
  rw [show HT.sIx l.length 0 (some (n : Int)) = min n l.length from HT.sIx_nat _ _ n, HT.sIx_none, Int.toNat_natCast]
  rw [List.take_of_length_le (by rw [List.length_drop]; omega)]
  by_cases hn : n ≤ l.length
  · rw [Nat.min_eq_left hn]
  · rw [Nat.min_eq_right (by omega), List.drop_length, List.drop_of_length_le (by omega)]
theorem cutL_mid {α : Type} (l : List α) (i j : Int) (h : 0 ≤ i) (hj : i ≤ j) : cutL l (some i) (some j) = (l.drop i.toNat).take (j - i).toNat := by
  obtain ⟨n, rfl⟩ := Int.eq_ofNat_of_zero_le h
  obtain ⟨m, rfl⟩ := Int.eq_ofNat_of_zero_le (Int.le_trans h hj)
  unfold cutL
  rw [show HT.sIx l.length 0 (some (n : Int)) = min n l.length from HT.sIx_nat _ _ n, show HT.sIx l.length l.length (some (m : Int)) = min m l.length from HT.sIx_nat _ _ m, Int.toNat_natCast]
  by_cases hn : n ≤ l.length
  · rw [Nat.min_eq_left hn]
    by_cases hm : m ≤ l.length
    · rw [Nat.min_eq_left hm]
      congr 1
      omega
    · rw [Nat.min_eq_right (by omega), List.take_of_length_le (by rw [List.length_drop]; omega), List.take_of_length_le (by rw [List.length_drop]; omega)]
  · rw [Nat.min_eq_right (show l.length ≤ n by omega), List.drop_length, List.take_nil, List.drop_of_length_le (by omega), List.take_nil]
section
variable {E : EN} {ds : DS} {ms m : MS} {P : D → MS → Prop} {PA : List D → MS → Prop} {c : DT} {tb : DTS} {de : DE} {aa : DA} {n : Nat} {z : Str} {i j k : Int}
def mStrI (d : D) (m : MS) (P : List D → MS → Prop) : Prop := match d with
  | .str z => P (strD z) m
  | _ => False
theorem w_istr (h : ExG de ds ms fun d m => mStrI d m PA) : iStrD de ds ms PA := h
theorem w_mStrI (h : PA (strD z) m) : mStrI (.str z) m PA := h
def mRng3 (xs : List D) (m : MS) (P : List D → MS → Prop) : Prop := match xs with
  | [.int i, .int j, .int c] => ∃ n, RgC i j c n ∧ P (rngC i c n) m
  | _ => False
theorem w_irng3 (h : ArG aa ds ms fun xs m => mRng3 xs m PA) : iRange3 aa ds ms PA := h
end
section
variable {m : MS} {P : Bool → Prop} {b : Bool} {xs : List D} {i : Int}
theorem w_truB (h : P b) : truD (.bl b) m P := h
theorem w_truL (h : P (!xs.isEmpty)) : truD (.lst xs) m P := h
theorem w_truI (h : P (i != 0)) : truD (.int i) m P := h
end
end DL
namespace DL
open PySem PySem.Spec PyProof.Rows L2
def sLst (n : Nat) (gs : DGs) : DG := fun d ds P => match d with
  | .lst xs => xs.length = n ∧ gs xs ds P
  | _ => False
theorem w_slst {n : Nat} {gs : DGs} {xs : List D} {ds : DS} {PS : DS → Prop} (e : xs.length = n) (h : TgsG gs xs ds PS) : sLst n gs (.lst xs) ds PS := ⟨e, h⟩
end DL
namespace DL
open PySem PySem.W PySem.Calls PySem.PX
end DL
namespace DL
open PySem PySem.Spec PyProof.Rows L2
def getD (kvs : List (Str × Int)) (k : Str) : Option Int := (kvs.find? fun kv => decide (kv.1 = k)).map (·.2)
end DL
namespace DL
open PySem PySem.Spec PyProof.Rows L2
def mClear (x : D) (m : MS) (P : D → MS → Prop) : Prop := ∃ p xs, x = .opq (.ref p) ∧ look m p = some xs ∧ P .non (put m p [])
def dClear (dx : DE) : DE := fun ds ms P => dx ds ms fun x m => mClear x m P
section
variable {ds : DS} {ms m : MS} {P : D → MS → Prop} {de da db : DE} {di : DI} {g : DG} {tt : DT} {tk tv : DE} {vs : List Nat} {kvs : List (Str × Int)} {k : Str} {v : Int} {xs : List D} {a b : Int} {p : Addr} {d : D} {m' : MS}
theorem w_clear (h : ExG de ds ms fun x m => mClear x m P) : dClear de ds ms P := h
theorem w_mClear (e : look m p = some xs) (e2 : put m p [] = m') (h : P .non m') : mClear (.opq (.ref p)) m P := ⟨p, xs, rfl, e, by rw [e2]; exact h⟩
end
end DL
namespace DL
open PySem PySem.Spec PyProof.Rows L2
def dListR (da : DE) : DE := fun ds ms P => da ds ms fun d m => match d with
  | .int n => (0 ≤ n ∧ n ≤ 16777216) ∧ P (.lst (rng 0 n.toNat)) m
  | _ => False
theorem drs_rgV {K : PySem.W.Frag} {F : Hp} (n : Int) : DRs K F (rgV 0 n) (rng 0 n.toNat) := by
  unfold rgV rng
  rw [Int.sub_zero]
  have go : ∀ l : List Nat, DRs K F (l.map fun i => V.int (0 + (i : Nat))) (l.map fun i => D.int (0 + (i : Nat))) := fun l => by
    induction l with
    | nil => exact .nil
    | cons i r ih => exact .cons (.int _) ih
  exact go _
theorem pd_listR {X : Cx} {a : Expr} {da : DE} {p p2 pos pos2 : Pos} (hc : X.calm = true) (hl : Gl X "list") (ml : X.mg "list" = none) (hr : Gl X "range") (mr : X.mg "range" = none) (ha : PD X a da)
    (n1 : starEach [Expr.Call (.Name "range" p2) [a] [] pos2] X.env = (false, eval (Expr.Call (.Name "range" p2) [a] [] pos2) X.env) :: starEach [] X.env := by rfl) (n2 : starEach [a] X.env = (false, eval a X.env) :: starEach [] X.env := by rfl) :
    PD X (.Call (.Name "list" p) [.Call (.Name "range" p2) [a] [] pos2] [] pos) (dListR da) :=
  peImp (pe_listRg hc hl ml (prg_1 hr mr ha n2) n1) fun σ H Q ⟨F, ds, ms, P, R, S, h1, h2⟩ =>
    ⟨F, ds, ms, _, R, S, h1, fun d m v F1 H1 p1 R1 s1 r1 => by
      match d, r1, p1 with
      | .int n, .int _, p1 =>
        exact ⟨n, rfl, RgOk.of_le (Int.le_refl 0) p1.1.2 (by decide) p1.1.1, fun q hq => h2 _ m _ (upd F1 q (.lst (rgV 0 n))) _ p1.2 (R1.new hq) (s1.trans (Stp.new R1 hq)) (R1.newLst hq (drs_rgV n))⟩⟩
def mListR (d : D) (m : MS) (P : D → MS → Prop) : Prop := match d with
  | .int n => (0 ≤ n ∧ n ≤ 16777216) ∧ P (.lst (rng 0 n.toNat)) m
  | _ => False
theorem w_listR {da : DE} {ds : DS} {ms : MS} {P : D → MS → Prop} (h : ExG da ds ms fun x m => mListR x m P) : dListR da ds ms P := h
theorem w_mListR {n : Int} {m : MS} {P : D → MS → Prop} (e : 0 ≤ n ∧ n ≤ 16777216) (h : P (.lst (rng 0 n.toNat)) m) : mListR (.int n) m P := ⟨e, h⟩
mutual
inductive Der (ms : MS) : D → D → Prop
  | lst {xs ys : List D} : Ders ms xs ys → Der ms (.lst xs) (.lst ys)
  | tup {xs ys : List D} : Ders ms xs ys → Der ms (.tup xs) (.tup ys)
  | ref {p : Addr} {xs ys : List D} : look ms p = some xs → Ders ms xs ys → Der ms (.opq (.ref p)) (.lst ys)
  | same (d : D) : Der ms d d
inductive Ders (ms : MS) : List D → List D → Prop
  | nil : Ders ms [] []
  | cons {x y : D} {xs ys : List D} : Der ms x y → Ders ms xs ys → Ders ms (x :: xs) (y :: ys)
end
theorem Ders.same {ms : MS} : ∀ xs : List D, Ders ms xs xs
  | [] => .nil
  | x :: r => .cons (.same x) (Ders.same r)
/-- all that is known, with the lists that are written to as they stand now -/
def held (F H : Hp) (ms : MS) : Hp := fun b => if (look ms b).isSome then H b else F b
def dPickZ (n : Nat) (is : List Nat) (fx1 fx2 : FX) (di : DE) (aa : DA) (Z : ZD) : DE := fun ds ms P => di ds ms fun d m =>
  (d = .int 0 ∧ aa ds m fun xs m1 => xs.length = n ∧ fx1 (pick is xs) m1 P fun c ns ys m' => Z c ns ys ds m') ∨
  (d = .int 1 ∧ aa ds m fun xs m1 => xs.length = n ∧ fx2 (pick is xs) m1 P fun c ns ys m' => Z c ns ys ds m')
section
variable {X : Cx} {W : WX} {Z : ZD} {k1 k2 n : Nat} {f1 f2 : Addr} {fd1 fd2 : FuncData} {ps1 ps2 : List Str} {is : List Nat} {fx1 fx2 : FX} {x1 x2 : Str} {p1 p2 q1 q2 pos : Pos} {i e : Expr} {es : List Expr} {aa : DA} {di : DE}
theorem pdz_pick2 (tk : Takes X W) (FF1 : FnX X.prog X.w X.K X.mg X.base k1 f1 fd1 ps1 (spX X.K fx1)) (F2 : FnX X.prog X.w X.K X.mg X.base k2 f2 fd2 ps2 (spX X.K fx2)) (hr1 : RoomG k1 X.A) (hr2 : RoomG k2 X.A) (hg1 : Gl X x1) (hm1 : X.mg x1 = some (.ref f1)) (hk1 : PySem.W.keepIn X.K (.ref f1) = true) (hb1 : Bnd X.K fd1 ps1 n [] is)
    (hg2 : Gl X x2) (hm2 : X.mg x2 = some (.ref f2)) (hk2 : PySem.W.keepIn X.K (.ref f2) = true) (hb2 : Bnd X.K fd2 ps2 n [] is)
    (hi : PD X i di) (ha : PDA X (e :: es) aa) (hs : PlainIx i := by exact fun _ _ => rfl) (hd1 : (x1 == ("__debug__" : Str)) = false := by decide) (hd2 : (x2 == ("__debug__" : Str)) = false := by decide)
    (he : starEach (e :: es) X.env = (false, eval e X.env) :: starEach es X.env := by rfl) (hpl : (backTo pos (starEach es X.env)).any (·.1) = false := by rfl)
    (hn1 : starEach [Expr.Name x1 p1, .Name x2 p2] X.env = (false, eval (.Name x1 p1) X.env) :: starEach [Expr.Name x2 p2] X.env := by rfl) (hn2 : starEach [Expr.Name x2 p2] X.env = (false, eval (.Name x2 p2) X.env) :: starEach [] X.env := by rfl) :
    PDZ X W Z (.Call (.Subscript (.List [.Name x1 p1, .Name x2 p2] q1) i q2) (e :: es) [] pos) (dPickZ n is fx1 fx2 di aa Z) := by
  have hc := pe_ix (X := X) (pos := q2) ix_seq (pe_lst (X := X) (pos := q1) (pda_cons (pd_glob (pos := p1) (d := .opq (.ref f1)) (v := .ref f1) hg1 hm1 rfl (fun _ => .opq _) hd1) (pda_cons (pd_glob (pos := p2) (d := .opq (.ref f2)) (v := .ref f2) hg2 hm2 rfl (fun _ => .opq _) hd2) pda_nil))) hi hs
  refine ⟨fun pins s σ H Q I h => ?_⟩
  obtain ⟨F, ds, ms, P, R, S, h1, h2, h3⟩ := h
  have start : ∀ {fx : FX} {f : Addr} {fd : FuncData} {ps : List Str} {k : Nat} {s1 : Shared} {H1 F1 : Hp} {m : MS}, FnX X.prog X.w X.K X.mg X.base k f fd ps (spX X.K fx) → RoomG k X.A → PySem.W.keepIn X.K (.ref f) = true → Bnd X.K fd ps n [] is → Inv X pins σ H1 s1 → Rel X.K F1 H1 m → Stp F H ms F1 H1 m →
      (aa ds m fun xs m1 => xs.length = n ∧ fx (pick is xs) m1 P fun c ns ys m' => Z c ns ys ds m') →
      wpAny (model X.prog X.w) X.A (callWith pos (.ref f) [] (backTo pos (starEach (e :: es) X.env)) []) (EP X pins σ Q) X.xe s1 := by
    intro fx f fd ps k s1 H1 F1 m FX hr hk hb I1 R1 s01 ha1
    have h' : liftA X.K aa σ H1 (fun vs H2 => vs.length = n ∧ spX X.K fx (pick is vs) H2 Q fun cv d H3 => W cv d σ H3) := by
      refine ⟨F1, ds, m, _, R1, S.mono s01.sub, ha1, fun xs m2 vs F2 H2 p R2 s2 rs => ⟨rs.length.trans p.1, F2, _, m2, P, _, R2, pick_drs rs is, p.2, fun d m3 v F3 H3 p3 R3 s3 r3 => ?_, fun c ns ys m3 cv d ws F3 H3 z R3 s3 hn hx hd => ?_⟩⟩
      · exact h2 d m3 v F3 H3 p3 R3 (s01.trans (s2.trans s3)) r3
      · exact h3 c ns ys m3 cv d ws F3 H3 z R3 (s01.trans (s2.trans s3)) hn hx hd
    refine PySem.W.callWith_K (h₀ := X.base) I1.ok.mod.kin hk (thn (ha.run pos pins s1 σ H1 _ I1 h') ?_) he hpl
    rintro us s2 ⟨vs, H2, I2, r, l, q⟩
    exact ⟨I2.kIn, run_x (ws := []) (zs := []) (ks := []) tk FX hr hb I2 r .nil l rfl (by rw [List.append_nil]; exact q)⟩
  have hq : tOp (rIx X.K) (tLst (liftA X.K (aCons (dC (.opq (.ref f1))) (aCons (dC (.opq (.ref f2))) aNil)))) (lift X.K di) σ H (fun x H1 => ∃ F1 m, Rel X.K F1 H1 m ∧ Stp F H ms F1 H1 m ∧
      ((x = .ref f1 ∧ aa ds m fun xs m1 => xs.length = n ∧ fx1 (pick is xs) m1 P fun c ns ys m' => Z c ns ys ds m') ∨ (x = .ref f2 ∧ aa ds m fun xs m1 => xs.length = n ∧ fx2 (pick is xs) m1 P fun c ns ys m' => Z c ns ys ds m'))) := by
    refine ⟨F, ds, ms, fun xs m => xs = [.opq (.ref f1), .opq (.ref f2)] ∧ m = ms, R, S, ⟨rfl, rfl⟩, ?_⟩
    rintro xs m vs F1 H1 ⟨rfl, rfl⟩ R1 s1 r1
    match vs, r1 with
    | [_, _], .cons (.opq _) (.cons (.opq _) .nil) =>
    refine ⟨(show 2 ≤ sizeLine by decide), fun p hp => ?_⟩
    refine ⟨_, ds, m, _, R1.new (o := .lst [.ref f1, .ref f2]) hp, S.mono (s1.trans (Stp.new R1 hp)).sub, h1, fun d m2 v F2 H2 p2 R2 s2 r2 => ?_⟩
    have hl : SqL X.K H2 p [.ref f1, .ref f2] := SqL.of (R2.sub _ _ (s2.sub _ _ upd_same))
    rcases p2 with ⟨rfl, p2⟩ | ⟨rfl, p2⟩
    · cases r2
      exact .inl ⟨p, _, 0, .ref f1, rfl, rfl, hl, rfl, F2, m2, R2, (s1.trans (Stp.new R1 hp)).trans s2, .inl ⟨rfl, p2⟩⟩
    · cases r2
      exact .inl ⟨p, _, 1, .ref f2, rfl, rfl, hl, rfl, F2, m2, R2, (s1.trans (Stp.new R1 hp)).trans s2, .inr ⟨rfl, p2⟩⟩
  show wpAny _ _ (do callWith pos (← eval (.Subscript (.List [.Name x1 p1, .Name x2 p2] q1) i q2) X.env) [] (backTo pos (starEach (e :: es) X.env)) (backToKw pos (keywordEach [] X.env))) _ _ _
  refine wpAny_bind (thn (hc.run pins s σ H _ I hq) ?_)
  rintro v s1 ⟨x, H1, I1, rv, F1, m, R1, s01, hh⟩
  rcases hh with ⟨rfl, hh⟩ | ⟨rfl, hh⟩
  · obtain rfl : v = .ref f1 := rv
    exact start FF1 hr1 hk1 hb1 I1 R1 s01 hh
  · obtain rfl : v = .ref f2 := rv
    exact start F2 hr2 hk2 hb2 I1 R1 s01 hh
end
def mPickZ (n : Nat) (is : List Nat) (fx1 fx2 : FX) (aa : DA) (Z : ZD) (ds : DS) (P : D → MS → Prop) (d : D) (m : MS) : Prop :=
  (d = .int 0 ∧ aa ds m fun xs m1 => xs.length = n ∧ fx1 (pick is xs) m1 P fun c ns ys m' => Z c ns ys ds m') ∨
  (d = .int 1 ∧ aa ds m fun xs m1 => xs.length = n ∧ fx2 (pick is xs) m1 P fun c ns ys m' => Z c ns ys ds m')
def mPickA (n : Nat) (is : List Nat) (fx : FX) (Z : ZD) (ds : DS) (P : D → MS → Prop) (xs : List D) (m : MS) : Prop := xs.length = n ∧ fx (pick is xs) m P fun c ns ys m' => Z c ns ys ds m'
theorem w_pickZ {n : Nat} {is : List Nat} {fx1 fx2 : FX} {di : DE} {aa : DA} {Z : ZD} {ds : DS} {ms : MS} {P : D → MS → Prop} (h : ExG di ds ms fun d m => mPickZ n is fx1 fx2 aa Z ds P d m) : dPickZ n is fx1 fx2 di aa Z ds ms P := h
theorem w_mPickZ0 {n : Nat} {is : List Nat} {fx1 fx2 : FX} {aa : DA} {Z : ZD} {ds : DS} {m : MS} {P : D → MS → Prop} (h : ArG aa ds m fun xs m1 => mPickA n is fx1 Z ds P xs m1) : mPickZ n is fx1 fx2 aa Z ds P (.int 0) m := .inl ⟨rfl, h⟩
theorem w_mPickZ1 {n : Nat} {is : List Nat} {fx1 fx2 : FX} {aa : DA} {Z : ZD} {ds : DS} {m : MS} {P : D → MS → Prop} (h : ArG aa ds m fun xs m1 => mPickA n is fx2 Z ds P xs m1) : mPickZ n is fx1 fx2 aa Z ds P (.int 1) m := .inr ⟨rfl, h⟩
theorem w_mPickA {n : Nat} {is : List Nat} {fx : FX} {Z : ZD} {ds : DS} {P : D → MS → Prop} {xs ys : List D} {m : MS} (e1 : xs.length = n) (e : pick is xs = ys) (h : fx ys m P fun c ns zs m' => Z c ns zs ds m') : mPickA n is fx Z ds P xs m := ⟨e1, by rw [e]; exact h⟩
end DL
namespace DL
open PySem PySem.Spec PyProof.Rows L2
structure FirstAt (is : List Int) (v : Int) (j : Nat) : Prop where
  at_ : is[j]? = some v
  no : ∀ k, k < j → is[k]? ≠ some v
def dIndex (dx : DE) (aa : DA) : DE := fun ds ms P => dx ds ms fun x m1 => match x with
  | .lst a => aa ds m1 fun ys m2 => (match ys with
    | [y] => ∃ (is : List Int) (v : Int) (j : Nat), a = is.map D.int ∧ y = .int v ∧ FirstAt is v j ∧ P (.int (j : Int)) m2
    | _ => False)
  | _ => False
theorem drs_ints {K : PySem.W.Frag} {F : Hp} : ∀ (is : List Int) {vs : List V}, DRs K F vs (is.map D.int) → vs = is.map V.int
  | [], vs, h => by cases h; rfl
  | i :: r, vs, h => by
    cases h with
    | cons h1 h2 =>
      cases h1
      rw [drs_ints r h2]; rfl
section
variable {X : Cx} {o e : Expr} {dx : DE} {aa : DA} {apos cpos : Pos}
theorem pd_index (ho : PD X o dx) (ha : PDA X [e] aa)
    (hbase : attributeBase o "index" X.env (eval o X.env) = eval o X.env := by rfl)
    (hfew : ((backTo cpos (starEach [e] X.env)).all (fun x => !x.1) && (backToKw cpos (keywordEach [] X.env)).all (fun x => x.1.isSome) && decide ([e].length + ([] : List Keyword).length + (if ([] : List Keyword).isEmpty then 0 else 1) < 30)) = true := by rfl)
    (hline : (apos.endLine == cpos.line) = true := by rfl) (hs : starEach [e] X.env = (false, eval e X.env) :: starEach [] X.env := by rfl) (hplain : (backTo cpos (starEach [] X.env)).any (·.1) = false := by rfl) :
    PD X (.Call (.Attribute o "index" apos) [e] [] cpos) (dIndex dx aa) :=
  peImp (pe_bm PySem.F.plainAttrs_list PySem.F.slot_list_index PySem.F.type_list_index mt_index ho ha hbase hfew hline hs hplain) fun σ H Q ⟨F, ds, ms, P, R, S, h1, h2⟩ =>
    ⟨F, ds, ms, _, R, S, h1, fun x m1 v F1 H1 p1 R1 s1 r1 => by
      cases r1 with
      | lst hl hs =>
        rename_i l vs as
        refine ⟨.inl ⟨rfl, vs, SqL.of (R1.sub _ _ hl)⟩, F1, ds, m1, _, R1, S.mono s1.sub, p1, fun ys m2 ws F2 H2 p2 R2 s2 r2 => ?_⟩
        cases r2 with
        | nil => exact p2.elim
        | cons ry rr =>
          cases rr with
          | cons _ _ => exact p2.elim
          | nil =>
            obtain ⟨is, w, j, rfl, rfl, c, p3⟩ := p2
            cases ry
            obtain rfl := drs_ints is hs
            refine ⟨l, _, .int w, j, .int w, rfl, rfl, SqL.of (R2.sub _ _ (s2.sub _ _ hl)), rfl, ?_, ?_, ?_, fun k z hk hz => ?_, h2 _ m2 _ F2 H2 p3 R2 (s1.trans s2) (.int _)⟩
            · rw [List.all_eq_true]
              intro z hz
              obtain ⟨i, _, rfl⟩ := List.mem_map.mp hz
              rfl
            · rw [List.getElem?_map, c.at_]; rfl
            · show (w == w) = true
              exact beq_self_eq_true w
            · rw [List.getElem?_map] at hz
              cases e : is[k]? with
              | none => rw [e] at hz; cases hz
              | some i =>
                rw [e] at hz
                cases hz
                have := c.no k hk
                show (i == w) = false
                exact beq_eq_false_iff_ne.mpr fun z => this (by rw [e, z])
      | _ => exact p1.elim⟩
end
def mIndex (aa : DA) (ds : DS) (x : D) (m : MS) (P : D → MS → Prop) : Prop := match x with
  | .lst a => aa ds m fun ys m2 => (match ys with
    | [y] => ∃ (is : List Int) (v : Int) (j : Nat), a = is.map D.int ∧ y = .int v ∧ FirstAt is v j ∧ P (.int (j : Int)) m2
    | _ => False)
  | _ => False
def mIndexA (a : List D) (ys : List D) (m : MS) (P : D → MS → Prop) : Prop := match ys with
  | [y] => ∃ (is : List Int) (v : Int) (j : Nat), a = is.map D.int ∧ y = .int v ∧ FirstAt is v j ∧ P (.int (j : Int)) m
  | _ => False
theorem w_index {dx : DE} {aa : DA} {ds : DS} {ms : MS} {P : D → MS → Prop} (h : ExG dx ds ms fun x m => mIndex aa ds x m P) : dIndex dx aa ds ms P := h
theorem w_mIndex {aa : DA} {ds : DS} {a : List D} {m : MS} {P : D → MS → Prop} (h : ArG aa ds m fun ys m2 => mIndexA a ys m2 P) : mIndex aa ds (.lst a) m P := h
theorem w_mIndexA {a : List D} {is : List Int} {v : Int} {j : Nat} {m : MS} {P : D → MS → Prop} (e : a = is.map D.int) (c : FirstAt is v j) (h : P (.int (j : Int)) m) : mIndexA a [.int v] m P := ⟨is, v, j, e, rfl, c, h⟩
end DL
namespace DL
open PySem PySem.Spec PyProof.Rows L2
end DL
namespace DL
open PySem PySem.Spec PyProof.Rows L2
def dSortSet (da : DE) : DE := fun ds ms P => da ds ms fun d m => match d with
  | .lst xs => ∃ is : List Int, xs = is.map D.int ∧ is.length ≤ 60 ∧ ∀ js : List Int, js.Pairwise (· < ·) → (∀ k, k ∈ js ↔ k ∈ is) → P (.lst (js.map D.int)) m
  | _ => False
def mSortSet (d : D) (m : MS) (P : D → MS → Prop) : Prop := match d with
  | .lst xs => ∃ is : List Int, xs = is.map D.int ∧ is.length ≤ 60 ∧ ∀ js : List Int, js.Pairwise (· < ·) → (∀ k, k ∈ js ↔ k ∈ is) → P (.lst (js.map D.int)) m
  | _ => False
theorem w_sortSet {da : DE} {ds : DS} {ms : MS} {P : D → MS → Prop} (h : ExG da ds ms fun d m => mSortSet d m P) : dSortSet da ds ms P := h
end DL
namespace DL
open PySem PySem.Spec PyProof.Rows L2
def mRevL (x : D) (m : MS) (P : D → MS → Prop) : Prop := match asL x m with
  | some xs => P (.lst xs.reverse) m
  | none => False
def dRevL (de : DE) : DE := fun ds ms P => de ds ms fun x m => mRevL x m P
section
variable {ds : DS} {ms m : MS} {P : D → MS → Prop} {de : DE} {xs : List D}
theorem w_revL (h : ExG de ds ms fun x m => mRevL x m P) : dRevL de ds ms P := h
theorem w_mRevL (h : P (.lst xs.reverse) m) : mRevL (.lst xs) m P := h
end
/-- what keeps no promise (the call of itself where it is not needed) -/
def noFS : FS := fun _ _ _ => False
theorem FnG.none {P : Program} {w : World} {K : PySem.W.Frag} {mg : Str → Option Value} {base : Heap} {k : Nat} {f : Addr} {fd : FuncData} {ps : List Str} : FnG P w K mg base k f fd ps (spD K noFS) :=
  ⟨fun _ _ _ _ ⟨_, _, _, _, _, _, h, _⟩ => h.elim, fun _ _ _ _ _ _ _ _ _ _ _ _ ⟨_, _, _, _, _, _, h, _⟩ => h.elim⟩
end DL
namespace DL
open PySem PySem.Spec PyProof.Rows L2
mutual
inductive Vw (L : MS) : D → D → Prop
  | same {d : D} : Vw L d d
  | tup {xs ys : List D} : VwS L xs ys → Vw L (.tup xs) (.tup ys)
  | lst {p : Addr} {xs ys : List D} : (p, xs) ∈ L → VwS L xs ys → Vw L (.opq (.ref p)) (.lst ys)
inductive VwS (L : MS) : List D → List D → Prop
  | nil : VwS L [] []
  | cons {x y : D} {xs ys : List D} : Vw L x y → VwS L xs ys → VwS L (x :: xs) (y :: ys)
end
theorem VwS.same {L : MS} : ∀ xs : List D, VwS L xs xs
  | [] => .nil
  | _ :: r => .cons .same (VwS.same r)
open Classical in
/-- the lent lists too -/
noncomputable def lent (L : MS) (F H : Hp) : Hp := fun b => if ∃ q ∈ L, q.1 = b then H b else F b
open Classical in
/-- without them -/
noncomputable def back (L : MS) (F : Hp) : Hp := fun b => if ∃ q ∈ L, q.1 = b then none else F b
section
variable {K : PySem.W.Frag} {F H : Hp} {L ms0 : MS}
theorem lent_in {b : Addr} (h : ∃ q ∈ L, q.1 = b) : lent L F H b = H b := if_pos h
theorem lent_out {b : Addr} (h : ¬ ∃ q ∈ L, q.1 = b) : lent L F H b = F b := if_neg h
theorem back_in {b : Addr} (h : ∃ q ∈ L, q.1 = b) : back L F b = none := if_pos h
theorem back_out {b : Addr} (h : ¬ ∃ q ∈ L, q.1 = b) : back L F b = F b := if_neg h
theorem none_in (R : Rel K F H (L ++ ms0)) {b : Addr} (h : ∃ q ∈ L, q.1 = b) : F b = none := by
  obtain ⟨q, hq, rfl⟩ := h
  exact (R.mu q (List.mem_append_left _ hq)).1
theorem lent_sub (R : Rel K F H (L ++ ms0)) : Sub F (lent L F H) := fun b o e => by
  by_cases h : ∃ q ∈ L, q.1 = b
  · rw [none_in R h] at e; cases e
  · rw [lent_out h]; exact e
mutual
theorem DR.vw (R : Rel K F H (L ++ ms0)) : ∀ {d d' : D}, Vw L d d' → ∀ {v : V}, DR K F v d → DR K (lent L F H) v d'
  | _, _, .same, _, r => r.mono (lent_sub R)
  | _, _, .tup hs, _, r => by
    cases r with
    | tup hq rs => exact .tup ((lent_sub R).sqT hq) (DRs.vw R hs rs)
  | _, _, .lst (p := p) hm hs, _, r => by
    cases r
    obtain ⟨_, vs, h2, h3⟩ := R.mu _ (List.mem_append_left _ hm)
    exact .lst (by rw [lent_in ⟨_, hm, rfl⟩]; exact h2) (DRs.vw R hs h3)
theorem DRs.vw (R : Rel K F H (L ++ ms0)) : ∀ {ds ds' : List D}, VwS L ds ds' → ∀ {vs : List V}, DRs K F vs ds → DRs K (lent L F H) vs ds'
  | _, _, .nil, _, r => by cases r; exact .nil
  | _, _, .cons h hs, _, r => by
    cases r with
    | cons r1 r2 => exact .cons (DR.vw R h r1) (DRs.vw R hs r2)
end
theorem out_of (R : Rel K F H (L ++ ms0)) {q : Addr × List D} (hq : q ∈ ms0) : ¬ ∃ r ∈ L, r.1 = q.1 := by
  rintro ⟨r, hr, e⟩
  have nd := R.nd
  rw [List.map_append] at nd
  exact (List.nodup_append.mp nd).2.2 _ (List.mem_map_of_mem hr) _ (List.mem_map_of_mem hq) e
theorem relLent (R : Rel K F H (L ++ ms0)) : Rel K (lent L F H) H ms0 ∧ Stp F H (L ++ ms0) (lent L F H) H ms0 := by
  refine ⟨⟨fun b o e => ?_, fun q hq => ?_, ?_, R.one.mono (lent_sub R)⟩, ⟨lent_sub R, fun _ _ h _ _ => h, fun a o e => ?_, fun q hq => .inl ⟨q, List.mem_append_right _ hq, rfl⟩⟩⟩
  · by_cases h : ∃ q ∈ L, q.1 = b
    · rw [lent_in h] at e; exact e
    · rw [lent_out h] at e; exact R.sub b o e
  · obtain ⟨h1, vs, h2, h3⟩ := R.mu q (List.mem_append_right _ hq)
    exact ⟨by rw [lent_out (out_of R hq)]; exact h1, vs, h2, h3.mono (lent_sub R)⟩
  · have nd := R.nd
    rw [List.map_append] at nd
    exact (List.nodup_append.mp nd).2.1
  · by_cases h : ∃ q ∈ L, q.1 = a
    · obtain ⟨q, hq, e2⟩ := h
      exact .inr (.inr ⟨q, List.mem_append_left _ hq, e2⟩)
    · rw [lent_out h] at e; exact .inl e
theorem relBack {F2 H2 : Hp} {m : MS} {v : V} {d : D} (R : Rel K F H (L ++ ms0)) (R2 : Rel K F2 H2 m) (s2 : Stp (lent L F H) H ms0 F2 H2 m) (fd : flat d = true) (fm : flatM m) (r2 : DR K F2 v d) :
    Rel K (back L F2) H2 (L ++ m) ∧ Stp F H (L ++ ms0) (back L F2) H2 (L ++ m) ∧ DR K (back L F2) v d := by
  have at_ : ∀ q ∈ L, ∃ vs, F2 q.1 = some (.lst vs) ∧ DRs K F vs q.2 := fun q hq => by
    obtain ⟨_, vs, h2, h3⟩ := R.mu q (List.mem_append_left _ hq)
    exact ⟨vs, s2.sub q.1 _ (by rw [lent_in ⟨q, hq, rfl⟩]; exact h2), h3⟩
  have sub3 : Sub F (back L F2) := fun b o hb => by
    by_cases h : ∃ q ∈ L, q.1 = b
    · rw [none_in R h] at hb; cases hb
    · rw [back_out h]
      exact s2.sub b o (by rw [lent_out h]; exact hb)
  have keepT : ∀ b u, F2 b = some u → (∀ vs, u ≠ .lst vs) → back L F2 b = some u := fun b u hb nl => by
    by_cases h : ∃ q ∈ L, q.1 = b
    · obtain ⟨q, hq, rfl⟩ := h
      obtain ⟨vs, e, _⟩ := at_ q hq
      rw [e] at hb
      cases hb
      exact absurd rfl (nl vs)
    · rw [back_out h]; exact hb
  have ee : ∀ b ws, (F2 b = some (.tup ws) → back L F2 b = some (.tup ws)) ∧ ∀ o, F2 b = some (.frz o (.tup ws)) → back L F2 b = some (.frz o (.tup ws)) :=
    fun b ws => ⟨fun hb => keepT b _ hb (fun vs z => by cases z), fun o hb => keepT b _ hb (fun vs z => by cases z)⟩
  refine ⟨⟨fun b o hb => ?_, fun q hq => ?_, ?_, R.one.mono sub3⟩, ⟨sub3, fun a o k1 k2 k3 => ?_, fun a o k1 => ?_, fun q hq => ?_⟩, r2.flat ee fd⟩
  · by_cases h : ∃ q ∈ L, q.1 = b
    · rw [back_in h] at hb; cases hb
    · rw [back_out h] at hb; exact R2.sub b o hb
  · rcases List.mem_append.mp hq with hq | hq
    · obtain ⟨vs, e, rs⟩ := at_ q hq
      exact ⟨back_in ⟨q, hq, rfl⟩, vs, R2.sub _ _ e, rs.mono sub3⟩
    · obtain ⟨y1, us, y2, y3⟩ := R2.mu q hq
      refine ⟨?_, us, y2, y3.flat ee (fm q hq)⟩
      by_cases h : ∃ r ∈ L, r.1 = q.1
      · exact back_in h
      · rw [back_out h]; exact y1
  · rw [List.map_append, List.nodup_append]
    have nd := R.nd
    rw [List.map_append] at nd
    refine ⟨(List.nodup_append.mp nd).1, R2.nd, fun a ha b hb e => ?_⟩
    obtain ⟨q, hq, rfl⟩ := List.mem_map.mp ha
    obtain ⟨r, hr, rfl⟩ := List.mem_map.mp hb
    obtain ⟨vs, e1, _⟩ := at_ q hq
    obtain ⟨y1, _⟩ := R2.mu r hr
    rw [e, y1] at e1
    cases e1
  · have hn : ¬ ∃ q ∈ L, q.1 = a := fun ⟨q, hq, z⟩ => k3 q (List.mem_append_left _ hq) z
    exact s2.keep a o k1 (by rw [lent_out hn]; exact k2) fun q hq => k3 q (List.mem_append_right _ hq)
  · by_cases h : ∃ q ∈ L, q.1 = a
    · rw [back_in h] at k1; cases k1
    · rw [back_out h] at k1
      rcases s2.newF a o k1 with z | z | ⟨q, hq, z⟩
      · rw [lent_out h] at z; exact .inl z
      · exact .inr (.inl z)
      · exact .inr (.inr ⟨q, List.mem_append_right _ hq, z⟩)
  · rcases List.mem_append.mp hq with hq | hq
    · exact .inl ⟨q, List.mem_append_left _ hq, rfl⟩
    · rcases s2.newM q hq with ⟨q2, hq2, z⟩ | z | ⟨o, z⟩
      · exact .inl ⟨q2, List.mem_append_right _ hq2, z⟩
      · exact .inr (.inl z)
      · by_cases h : ∃ r ∈ L, r.1 = q.1
        · obtain ⟨r, hr, e⟩ := h
          exact .inl ⟨r, List.mem_append_left _ hr, e⟩
        · rw [lent_out h] at z; exact .inr (.inr ⟨o, z⟩)
end
/-- a slot's lists are lent to an expression that tells flat data -/
def dView (i : Nat) (de : DE) : DE := fun ds ms P => ∃ (L ms0 : MS) (d d' : D), ms = L ++ ms0 ∧ slot ds i = some d ∧ Vw L d d' ∧ de (setSlot ds i d') ms0 fun r m => flat r = true ∧ flatM m ∧ P r (L ++ m)
theorem lift_view {K : PySem.W.Frag} {i : Nat} {de : DE} : ∀ σ H Q, lift K (dView i de) σ H Q → lift K de σ H Q := fun σ H Q ⟨F, ds, ms, P, R, S, h1, h2⟩ => by
  obtain ⟨L, ms0, d, d', rfl, e, vw, h1⟩ := h1
  obtain ⟨v, hv, hr⟩ := S.get e
  obtain ⟨R1, s1⟩ := relLent R
  refine ⟨_, _, _, _, R1, setSlot_σ (S.mono s1.sub) hv (hr.vw R vw), h1, fun r m u F2 H2 hp R2 s2 r2 => ?_⟩
  obtain ⟨fd, fm, hp⟩ := hp
  obtain ⟨R3, s3, r3⟩ := relBack R R2 s2 fd fm r2
  exact h2 r (L ++ m) u _ H2 hp R3 s3 r3
theorem pdt_cmpV {X : Cx} {a b : Expr} {da db : DE} {pos : Pos} {i : Nat} {op : CmpOp} {r : R2} {f : OF} (ho : OpR X (compareOp op) r) (hf : OpD X.K r f) (ha : PD X a da) (hb : PD X b db) (hm : behindInMarks op b = false := by first | exact nomark _ | rfl) : PDT X (.Compare a [op] [b] pos) (dTest (dView i (dOp f da db))) := by
  refine ptImp (pt_cmpR ho ha hb hm) fun σ H Q h => ?_
  obtain ⟨F, ds, ms, P, R, S, h1, h2⟩ := h
  refine lift_op hf σ H _ (lift_view σ H _ ⟨F, ds, ms, _, R, S, h1, fun d m v F1 H1 p1 R1 s1 r1 => ?_⟩)
  cases d with
  | bl b => cases r1; exact ⟨b, rfl, h2 b m F1 H1 p1 R1 s1⟩
  | _ => exact p1.elim
theorem w_view {i : Nat} {de : DE} {ds ds' : DS} {ms : MS} {P : D → MS → Prop} (L ms0 : MS) {d d' : D} (e : ms = L ++ ms0) (e1 : slot ds i = some d) (vw : Vw L d d') (e2 : setSlot ds i d' = ds') (h : ExG de ds' ms0 fun r m => flat r = true ∧ flatM m ∧ P r (L ++ m)) : dView i de ds ms P :=
  ⟨L, ms0, d, d', e, e1, vw, by rw [e2]; exact h⟩
/-- ahead of a statement a slot's lists are made fast -/
def dViewS (i : Nat) (t : DTS) : DTS := fun E ds ms => ∃ (L ms0 : MS) (d d' : D), ms = L ++ ms0 ∧ slot ds i = some d ∧ Vw L d d' ∧ t E (setSlot ds i d') ms0
theorem liftS_view {K : PySem.W.Frag} {t : DTS} {i : Nat} : ∀ D σ H, liftS K (dViewS i t) D σ H → liftS K t D σ H := fun D σ H ⟨F, ds, ms, E, R, S, h, n, r, k, q⟩ => by
  obtain ⟨L, ms0, d, d', rfl, e, vw, h⟩ := h
  obtain ⟨v, hv, hr⟩ := S.get e
  obtain ⟨z1, z2⟩ := relLent R
  exact ⟨_, _, _, E, z1, setSlot_σ (S.mono z2.sub) hv (hr.vw R vw), h, fun ds' m' σ' F' H' h' R' s' S' => n ds' m' σ' F' H' h' R' (z2.trans s') S', fun d m' v' F' H' h' R' s' r' => r d m' v' F' H' h' R' (z2.trans s') r',
    fun ds' m' σ' F' H' h' R' s' S' => k ds' m' σ' F' H' h' R' (z2.trans s') S', fun ds' m' σ' F' H' h' R' s' S' => q ds' m' σ' F' H' h' R' (z2.trans s') S'⟩
theorem pds_view {X : Cx} {st : Stmt} {t : DTS} {i : Nat} (h : PDS X st t) : PDS X st (dViewS i t) := psImp h liftS_view
theorem w_viewS {t : DTS} {E : EN} {ds ds' : DS} {ms : MS} {i : Nat} (L ms0 : MS) {d d' : D} (e : ms = L ++ ms0) (e1 : slot ds i = some d) (vw : Vw L d d') (e2 : setSlot ds i d' = ds') (h : StG t E ds' ms0) : dViewS i t E ds ms :=
  ⟨L, ms0, d, d', e, e1, vw, by rw [e2]; exact h⟩
/-- what an expression tells is made fast, its lists too -/
def dViewE (de : DE) : DE := fun ds ms P => de ds ms fun d m => ∃ (L ms0 : MS) (d' : D), m = L ++ ms0 ∧ Vw L d d' ∧ P d' ms0
theorem pd_viewE {X : Cx} {e : Expr} {de : DE} (h : PD X e de) : PD X e (dViewE de) := peImp h fun σ H Q ⟨F, ds, ms, P, R, S, h1, h2⟩ =>
  ⟨F, ds, ms, _, R, S, h1, fun d m v F1 H1 p1 R1 s1 r1 => by
    obtain ⟨L, ms0, d', rfl, vw, p1⟩ := p1
    obtain ⟨z1, z2⟩ := relLent R1
    exact h2 d' ms0 v _ _ p1 z1 (s1.trans z2) (r1.vw R1 vw)⟩
theorem w_viewE {de : DE} {ds : DS} {ms : MS} {P : D → MS → Prop} (h : ExG de ds ms fun d m => ∃ (L ms0 : MS) (d' : D), m = L ++ ms0 ∧ Vw L d d' ∧ P d' ms0) : dViewE de ds ms P := h
end DL
namespace DL
open PySem PySem.Spec PyProof.Rows L2
section
variable {K : PySem.W.Frag} {F1 H1 F2 H2 : Hp} {ms m2 : MS} {p : Addr} {xs : List D} {vs : List V}
theorem relPark (R : Rel K F1 H1 ms) : Rel K F1 H1 (drp ms p) := ⟨R.sub, fun q hq => R.mu q (drp_sub q hq), drp_nd R.nd, R.one⟩
theorem unpark (R1 : Rel K F1 H1 ms) (e1 : look ms p = some xs) (hF : F1 p = none) (hH : H1 p = some (.lst vs)) (rs : DRs K F1 vs xs) (s : Stp F1 H1 (drp ms p) F2 H2 m2) (R2 : Rel K F2 H2 m2) :
    Rel K F2 H2 ((p, xs) :: m2) ∧ Stp F1 H1 ms F2 H2 ((p, xs) :: m2) := by
  have off := drp_ne (p := p) R1.nd
  have h2 : H2 p = some (.lst vs) := s.keep p _ hH hF off
  have f2 : F2 p = none := by
    cases e : F2 p with
    | none => rfl
    | some u =>
      rcases s.newF p u e with z | z | ⟨q, hq, z⟩
      · rw [hF] at z; cases z
      · rw [hH] at z; cases z
      · exact absurd z (off q hq)
  refine ⟨⟨R2.sub, fun q hq => ?_, ?_, R2.one⟩, ⟨s.sub, fun a o k1 k2 k3 => s.keep a o k1 k2 fun q hq => k3 q (drp_sub q hq), fun a o h => ?_, fun q hq => ?_⟩⟩
  · rcases List.mem_cons.mp hq with rfl | hq
    · exact ⟨f2, vs, h2, rs.mono s.sub⟩
    · exact R2.mu q hq
  · rw [List.map_cons, List.nodup_cons]
    refine ⟨fun hm => ?_, R2.nd⟩
    obtain ⟨q, hq, eq⟩ := List.mem_map.mp hm
    have eq : q.1 = p := eq
    rcases s.newM q hq with ⟨q2, hq2, z⟩ | z | ⟨o, z⟩
    · exact off q2 hq2 (z.trans eq)
    · rw [eq, hH] at z; cases z
    · rw [eq, hF] at z; cases z
  · rcases s.newF a o h with z | z | ⟨q, hq, z⟩
    · exact .inl z
    · exact .inr (.inl z)
    · exact .inr (.inr ⟨q, drp_sub q hq, z⟩)
  · rcases List.mem_cons.mp hq with rfl | hq
    · exact .inl ⟨_, look_mem e1, rfl⟩
    · rcases s.newM q hq with ⟨q2, hq2, z⟩ | z | z
      · exact .inl ⟨q2, drp_sub q2 hq2, z⟩
      · exact .inr (.inl z)
      · exact .inr (.inr z)
end
end DL
namespace DL
open PySem PySem.Spec PyProof.Rows L2
end DL
namespace DL
open PySem PySem.Spec PyProof.Rows L2
/-- what is set apart meanwhile comes back, and nothing has come to its place -/
def EN.parkN (E : EN) (p : Addr) (xs : List D) : EN := { nx := fun ds m => (∀ e ∈ m, e.1 ≠ p) → E.nx ds ((p, xs) :: m), rt := fun d m => (∀ e ∈ m, e.1 ≠ p) → E.rt d ((p, xs) :: m), bk := fun ds m => (∀ e ∈ m, e.1 ≠ p) → E.bk ds ((p, xs) :: m), ct := fun ds m => (∀ e ∈ m, e.1 ≠ p) → E.ct ds ((p, xs) :: m) }
theorem offHead {p : Addr} {xs : List D} {m : MS} (h : (((p, xs) :: m).map (·.1)).Nodup) : ∀ e ∈ m, e.1 ≠ p := fun e he z => by
  rw [List.map_cons, List.nodup_cons] at h
  exact h.1 (by show p ∈ _; rw [← z]; exact List.mem_map_of_mem he)
def dForE (de : DE) (g : DG) (tb : DTS) : DTS := fun E ds ms => de ds ms fun d m => ∃ p xs, d = .opq (.ref p) ∧ look m p = some xs ∧ loopD g tb (E.parkN p xs) xs ds (drp m p)
def dLcE (de : DE) (g : DG) (tt : DT) (te : DE) (vs : List Nat) : DE := fun ds ms P => de ds ms fun d m => ∃ p xs, d = .opq (.ref p) ∧ look m p = some xs ∧ compD g tt te (wipeD ds vs) xs [] (drp m p) fun ys m' => (∀ e ∈ m', e.1 ≠ p) → P (.lst ys) ((p, xs) :: m')
section
variable {K : PySem.W.Frag} {dg : DG} {tb : DTS} {tt : DT} {te de : DE} {g : TG} {us vs : List Nat}
theorem lift_forE (hg : TgD K g dg us) : ∀ D σ H, liftS K (dForE de dg tb) D σ H → tFor (iList K (lift K de)) g (liftS K tb) D σ H := fun D σ H ⟨F, ds, ms, E, R, S, h0, n, r, k, q⟩ => by
  refine ⟨F, ds, ms, _, R, S, h0, fun d m v F1 H1 p1 R1 s1 r1 => ?_⟩
  obtain ⟨p, xs, rfl, e1, h⟩ := p1
  cases r1
  obtain ⟨hF, vs, hH, rs⟩ := R1.look e1
  refine ⟨p, rfl, ⟨vs, SqL.of hH⟩, ?_⟩
  have off := drp_ne (p := p) R1.nd
  refine for_it (walk_list (K := K) (a := p) (xs := vs)) (fun j σ1 H2 => ∃ F2 ds2 m2, Rel K F2 H2 m2 ∧ Stp F1 H1 (drp m p) F2 H2 m2 ∧ Sl K F2 σ1 ds2 ∧ loopD dg tb (E.parkN p xs) (xs.drop j) ds2 m2)
    ⟨F1, ds, drp m p, relPark R1, Stp.refl, S.mono s1.sub, h⟩ (fun j σ1 H2 _ ⟨F2, ds2, m2, R2, s2, S2, h2⟩ => SqL.of (s2.keep p _ hH hF off)) ?_ ?_
  · rintro j x σ1 H2 H3 hj ⟨F2, ds2, m2, R2, s2, S2, h2⟩ ⟨rfl, hx⟩
    obtain ⟨d, hd, rx⟩ := rs.getV hx
    rw [drop_get hd] at h2
    refine hg.snd x σ1 F2 H3 _ d ds2 _ R2.sub S2 (rx.mono s2.sub) h2 fun ds3 σ3 h3 S3 => ?_
    refine ⟨F2, ds3, m2, _, R2, S3, h3, ?_, ?_, ?_, ?_⟩
    · exact fun ds4 m4 σ4 F4 H4 h4 R4 s4 S4 => ⟨F4, ds4, m4, R4, s2.trans s4, S4, h4⟩
    · intro d4 m4 v4 F4 H4 h4 R4 s4 r4
      obtain ⟨R5, s5⟩ := unpark R1 e1 hF hH rs (s2.trans s4) R4
      exact r d4 _ v4 F4 H4 (h4 (offHead R5.nd)) R5 (s1.trans s5) r4
    · intro ds4 m4 σ4 F4 H4 h4 R4 s4 S4
      obtain ⟨R5, s5⟩ := unpark R1 e1 hF hH rs (s2.trans s4) R4
      exact n ds4 _ σ4 F4 H4 (h4 (offHead R5.nd)) R5 (s1.trans s5) S4
    · exact fun ds4 m4 σ4 F4 H4 h4 R4 s4 S4 => ⟨F4, ds4, m4, R4, s2.trans s4, S4, h4⟩
  · rintro σ1 H2 ⟨F2, ds2, m2, R2, s2, S2, h2⟩
    rw [rs.length, List.drop_length] at h2
    obtain ⟨R5, s5⟩ := unpark R1 e1 hF hH rs s2 R2
    exact n ds2 _ σ1 F2 H2 (h2 (offHead R5.nd)) R5 (s1.trans s5) S2
theorem pds_forE {X : Cx} {tg iter : Expr} {body : List Stmt} {pos : Pos} (hc : X.calm = true) (hi : PD X iter de) (hg : PG X tg g) (hd : TgD X.K g dg us) (hb : PDSs X body tb) (hp : PassesOwn (model X.prog X.w) X.A X.env X.xe := by exact PassesOwn.never)
    (hs : ∀ x, foldedSetIterable iter X.env x = pure x := by intro _; rfl) : PDS X (.For tg iter body [] pos) (dForE de dg tb) := psImp (ps_for hp hc (pi_list hi) hg hb hs) (lift_forE hd)
theorem lift_lcE (hg : TgD K g dg vs) (hm : MonG g) : ∀ σ H Q, lift K (dLcE de dg tt te vs) σ H Q → tLc (iList K (lift K de)) g (liftT K tt) (lift K te) vs σ H Q := fun σ H Q ⟨F, ds, ms, P, R, S, h0, q⟩ => by
  refine ⟨F, ds, ms, _, R, S, h0, fun d m v F0 H0 p1 R0 s0 r1 => ?_⟩
  obtain ⟨p, xs, rfl, e1, h⟩ := p1
  cases r1
  obtain ⟨hF0, vs0, hH0, rs⟩ := R0.look e1
  refine ⟨p, rfl, ⟨vs0, SqL.of hH0⟩, fun L hL => ?_⟩
  have off := drp_ne (p := p) R0.nd
  have Rp := relPark (p := p) R0
  have nL : F0 L = none := R0.sub.none hL
  have nM : ∀ r ∈ drp m p, r.1 ≠ L := fun r hr => by
    obtain ⟨_, ws, h2, _⟩ := Rp.mu r hr
    exact ne_of_none h2 hL
  refine lc_it (walk_list (K := K) (a := p) (xs := vs0)) (fun j H1 => ∃ F1 m1 acc av, Rel K F1 H1 m1 ∧ Stp F0 H0 (drp m p) F1 H1 m1 ∧ H1 L = some (.lst av) ∧ F1 L = none ∧ (∀ r ∈ m1, r.1 ≠ L) ∧ DRs K F1 av acc ∧ compD dg tt te (wipeD ds vs) (xs.drop j) acc m1 fun ys m' => (∀ e ∈ m', e.1 ≠ p) → P (.lst ys) ((p, xs) :: m'))
    ⟨F0, drp m p, [], [], Rp.lay hL, ⟨Sub.refl F0, fun a u h1 _ _ => by rw [upd_ne (ne_of_none h1 hL)]; exact h1, fun _ _ h => .inl h, fun r hr => .inl ⟨r, hr, rfl⟩⟩, upd_same, nL, nM, .nil, h⟩
    (fun j H1 _ ⟨F1, m1, acc, av, R1, s1, _⟩ => SqL.of (s1.keep p _ hH0 hF0 off)) ?_ ?_
  · rintro j x H1 H2 hj ⟨F1, m1, acc, av, R1, s1, hD, hF, hM, ra, h1⟩ ⟨rfl, hx⟩
    obtain ⟨d, hd, rx⟩ := rs.getV hx
    rw [drop_get hd] at h1
    have hw := hg.wip x (L2.wipe σ vs) H2 _ (hg.snd x (L2.wipe σ vs) F1 H2 (fun σ2 H3 => H3 = H2 ∧ ∃ ds2, Sl K F1 σ2 ds2 ∧ tt ds2 m1 fun b m3 => if b = true then te ds2 m3 fun y m4 => acc.length < sizeLine ∧ compD dg tt te (wipeD ds vs) (xs.drop (j + 1)) (acc ++ [y]) m4 fun ys m' => (∀ e ∈ m', e.1 ≠ p) → P (.lst ys) ((p, xs) :: m') else compD dg tt te (wipeD ds vs) (xs.drop (j + 1)) acc m3 fun ys m' => (∀ e ∈ m', e.1 ≠ p) → P (.lst ys) ((p, xs) :: m')) d (wipeD ds vs) _ R1.sub ((S.wipe vs).mono (s0.sub.trans s1.sub)) (rx.mono s1.sub) h1 fun ds2 σ2 h2 S2 => ⟨rfl, ds2, S2, h2⟩)
    refine hm _ _ _ _ _ ?_ hw
    rintro σ2 H3 ⟨e2, rfl, ds2, S2, h2⟩
    refine ⟨e2.trans (wipe_wipe fun u hu => hu), F1, ds2, m1, _, R1, S2, h2, fun b m4 F4 H4 p4 R4 s4 => ?_⟩
    obtain ⟨hD4, hF4, hM4⟩ := s4.kp hD hF hM
    cases b with
    | false =>
      rw [if_neg Bool.false_ne_true] at p4 ⊢
      exact ⟨F4, m4, acc, av, R4, s1.trans s4, hD4, hF4, hM4, ra.mono s4.sub, p4⟩
    | true =>
      rw [if_pos rfl] at p4 ⊢
      refine ⟨F4, ds2, m4, _, R4, S2.mono s4.sub, p4, fun y m5 v5 F5 H5 p5 R5 s5 r5 => ?_⟩
      obtain ⟨hD5, hF5, hM5⟩ := s5.kp hD4 hF4 hM4
      have ra5 := (ra.mono s4.sub).mono s5.sub
      have s05 := (s1.trans s4).trans s5
      refine ⟨av, hD5, by rw [ra.length]; exact p5.1, F5, m5, acc ++ [y], av ++ [v5], ⟨fun b u z => ?_, fun r hr => ?_, R5.nd, R5.one⟩, ⟨s05.sub, fun a u z1 z2 z3 => by rw [upd_ne (ne_of_none z1 hL)]; exact s05.keep a u z1 z2 z3, s05.newF, s05.newM⟩, upd_same, hF5, hM5, ra5.append (.cons r5 .nil), p5.2⟩
      · rw [upd_ne (fun w => by rw [w, hF5] at z; cases z)]; exact R5.sub b u z
      · obtain ⟨z1, ws, z2, z3⟩ := R5.mu r hr
        exact ⟨z1, ws, by rw [upd_ne (hM5 r hr)]; exact z2, z3⟩
  · rintro H1 ⟨F1, m1, acc, av, R1, s1, hD, hF, hM, ra, h1⟩
    rw [rs.length, List.drop_length] at h1
    have sF : Sub F1 (upd F1 L (.lst av)) := Sub.new hF
    have R6 : Rel K (upd F1 L (.lst av)) H1 m1 := by
      refine ⟨fun b u z => ?_, fun r hr => ?_, R1.nd, R1.one.mono sF⟩
      · by_cases hb : b = L
        · subst hb; rw [upd_same] at z; rw [hD]; exact z
        · rw [upd_ne hb] at z; exact R1.sub b u z
      · obtain ⟨z1, ws, z2, z3⟩ := R1.mu r hr
        exact ⟨by rw [upd_ne (hM r hr)]; exact z1, ws, z2, z3.mono sF⟩
    have s6 : Stp F0 H0 (drp m p) (upd F1 L (.lst av)) H1 m1 := by
      refine ⟨s1.sub.trans sF, s1.keep, fun a u z => ?_, s1.newM⟩
      by_cases hb : a = L
      · subst hb; exact .inr (.inl hL)
      · rw [upd_ne hb] at z; exact s1.newF a u z
    obtain ⟨R7, s7⟩ := unpark R0 e1 hF0 hH0 rs s6 R6
    exact q _ _ _ _ H1 (h1 (offHead R7.nd)) R7 (s0.trans s7) (.lst upd_same (ra.mono sF))
theorem pd_lcE {X : Cx} {elt tg iter : Expr} {ifs : List Expr} {scope : Scope} {own : List (Str × Nat)} {pos : Pos} (hc : X.calm = true) (hN : X.N.Nodup) (hi : PD X iter de) (ok : BlkOk X.N X.env.scope scope own)
    (hg : ∀ (s : Shared) (H : Hp) (C : Addr) (cl : List (Str × Addr)) (fp : List Addr), PG (X.blk s H scope (compEnvC scope cl C X.env) fp) tg g)
    (hd : TgD X.K g dg (own.map (·.2))) (hm : MonG g)
    (ht : ∀ (s : Shared) (H : Hp) (C : Addr) (cl : List (Str × Addr)) (fp : List Addr), PDTs (X.blk s H scope (compEnvC scope cl C X.env) fp) ifs tt)
    (he : ∀ (s : Shared) (H : Hp) (C : Addr) (cl : List (Str × Addr)) (fp : List Addr), PD (X.blk s H scope (compEnvC scope cl C X.env) fp) elt te)
    (hs : ∀ x, foldedSetIterable iter X.env x = pure x := by intro _; rfl) :
    PD X (.ListComp elt [⟨tg, iter, ifs, 0⟩] scope pos) (dLcE de dg tt te (own.map (·.2))) :=
  peImp (pe_lc hc hN (pi_list hi) ok hg ht he hs) (lift_lcE hd hm)
def mForE (g : DG) (tb : DTS) (E : EN) (ds : DS) (d : D) (m : MS) : Prop := ∃ p xs, d = .opq (.ref p) ∧ look m p = some xs ∧ loopD g tb (E.parkN p xs) xs ds (drp m p)
def mLcE (g : DG) (tt : DT) (te : DE) (ds : DS) (P : D → MS → Prop) (d : D) (m : MS) : Prop := ∃ p xs, d = .opq (.ref p) ∧ look m p = some xs ∧ compD g tt te ds xs [] (drp m p) fun ys m' => (∀ e ∈ m', e.1 ≠ p) → P (.lst ys) ((p, xs) :: m')
theorem w_forE {E : EN} {ds : DS} {ms : MS} (h : ExG de ds ms fun d m => mForE dg tb E ds d m) : dForE de dg tb E ds ms := h
theorem w_mForE {E : EN} {ds : DS} {m m' : MS} {p : Addr} {xs : List D} (e1 : look m p = some xs) (e2 : drp m p = m') (h : loopD dg tb (E.parkN p xs) xs ds m') : mForE dg tb E ds (.opq (.ref p)) m := ⟨p, xs, rfl, e1, by rw [e2]; exact h⟩
theorem w_lcE {ds : DS} {ms : MS} {P : D → MS → Prop} (h : ExG de ds ms fun d m => mLcE dg tt te (wipeD ds vs) P d m) : dLcE de dg tt te vs ds ms P := h
theorem w_mLcE {ds : DS} {m m' : MS} {P : D → MS → Prop} {p : Addr} {xs : List D} (e1 : look m p = some xs) (e2 : drp m p = m') (h : compD dg tt te ds xs [] m' fun ys m2 => (∀ e ∈ m2, e.1 ≠ p) → P (.lst ys) ((p, xs) :: m2)) : mLcE dg tt te ds P (.opq (.ref p)) m := ⟨p, xs, rfl, e1, by rw [e2]; exact h⟩
end
end DL
namespace DL
open PySem PySem.Spec PyProof.Rows L2
def or3B (m1 m2 m3 : List (Str × Bool)) (c : Str) : Option Bool := match m1.lookup c, m2.lookup c, m3.lookup c with
  | some b1, some b2, some b3 => some (b1 || (b2 || b3))
  | _, _, _ => none
def mIsE3 (m1 m2 m3 : List (Str × Bool)) (d : D) (m : MS) (P : D → MS → Prop) : Prop := match d with
  | .exc c _ _ => ∃ b, or3B m1 m2 m3 c = some b ∧ P (.bl b) m
  | _ => False
def dIsE3 (m1 m2 m3 : List (Str × Bool)) (de : DE) : DE := fun ds ms P => de ds ms fun d m => mIsE3 m1 m2 m3 d m P
def rIsE3 (K : PySem.W.Frag) : List V → Hp → VK → Prop := fun xs H Q => ∃ (a C tp : Addr) (d : Option Addr) (fs : List (Str × V)) (v1 v2 v3 : V) (w1 w2 w3 : Value) (b : Bool), xs = [.ref a, .ref tp] ∧ H a = some (ExH (.ref C) d a) ∧
  (d = none ∨ ∃ dx, d = some dx ∧ H dx = some (.xd fs)) ∧ ExcC K C ∧ H tp = some (.tup [v1, v2, v3]) ∧ (∀ u, RelV v1 u → u = w1) ∧ (∀ u, RelV v2 u → u = w2) ∧ (∀ u, RelV v3 u → u = w3) ∧ PySem.W.kitAny K (.ref C) [w1, w2, w3] = some b ∧ Q (.bl b) H
theorem call_isE3 {X : Cx} : CallR X (.builtin "isinstance") (rIsE3 X.K) := by
  intro pins s σ H xs us Q I r h
  obtain ⟨a, C, tp, d, fs, v1, v2, v3, w1, w2, w3, b, rfl, ha, hd, hC, hT, e1, e2, e3, e, q⟩ := h
  match us, r with
  | [_, _], .cons (.refl _) (.cons (.refl _) .nil) =>
    obtain ⟨⟨oe, fv, ho, hz, hf⟩, _, _⟩ := I.hok a _ ha
    obtain ⟨_, its, rv, o, g1, g2, n, g3⟩ := (show ObjOk X.prog X.w H s.heap tp (.tup [v1, v2, v3]) from I.hok tp _ hT)
    obtain ⟨oc, od, dt, sl⟩ := o
    simp only at g2 g3
    subst g2 g3
    match its, rv with
    | [u1, u2, u3], .cons r1 (.cons r2 (.cons r3 .nil)) =>
      have z1 := e1 u1 r1
      have z2 := e2 u2 r2
      have z3 := e3 u3 r3
      subst z1 z2 z3
      have nc : PySem.W.notCls oe = true := by unfold PySem.W.notCls; rw [hf]
      have go : ∀ od, PySem.W.InstAt s.heap a oe C od → wpAny (model X.prog X.w) X.A (call (.builtin "isinstance") [.ref a, .ref tp]) (EP X pins σ Q) X.xe s := fun od J => by
        have known : (PySem.W.clsIn X.K C).isSome = true := by
          obtain ⟨cd, hc, _⟩ := PySem.W.any_some hC.hd
          exact Option.isSome_iff_exists.mpr ⟨cd, hc⟩
        exact PySem.W.kia_tup (PySem.W.kitx_exc known hC.hg hC.hk hC.hs hC.ha hC.hn hC.ht hC.hm) I.kIn J g1 e (fun z => nomatch z) fun tk => ⟨.bl b, H, I.kept (t' := tk) fun _ _ z => z, rfl, q⟩
      rcases hd with rfl | ⟨dx, rfl, hx⟩
      · exact go none ⟨ho, hz.1, nc, by rw [hz.2]; trivial⟩
      · obtain ⟨mA, hns, _⟩ := (show ObjOk X.prog X.w H s.heap dx (.xd fs) from I.hok dx _ hx)
        obtain ⟨od, hod, _⟩ := lookIn_ns hns
        exact go (some od) ⟨ho, hz.1, nc, by rw [hz.2]; exact hod⟩
theorem pd_isE3 {X : Cx} {e : Expr} {de : DE} {x y z : Str} {tx} {p p1 p2 p3 tpos pos : Pos} {w1 w2 w3 : Value} {v1 v2 v3 : V} {m1 m2 m3 : List (Str × Bool)} (h1 : MlK X.K w1 m1) (h2 : MlK X.K w2 m2) (h3 : MlK X.K w3 m3) (r1 : ∀ u, RelV v1 u → u = w1) (r2 : ∀ u, RelV v2 u → u = w2) (r3 : ∀ u, RelV v3 u → u = w3)
    (n1 : PE X (.Name x p1) (tC v1)) (n2 : PE X (.Name y p2) (tC v2)) (n3 : PE X (.Name z p3) (tC v3)) (hg : Gl X "isinstance") (hm : X.mg "isinstance" = none) (h : PD X e de)
    (he : starEach [e, .Tuple [.Name x p1, .Name y p2, .Name z p3] tx tpos] X.env = (false, eval e X.env) :: starEach [.Tuple [.Name x p1, .Name y p2, .Name z p3] tx tpos] X.env := by rfl)
    (hpl : (backTo pos (starEach [.Tuple [.Name x p1, .Name y p2, .Name z p3] tx tpos] X.env)).any (·.1) = false := by rfl) :
    PD X (.Call (.Name "isinstance" p) [e, .Tuple [.Name x p1, .Name y p2, .Name z p3] tx tpos] [] pos) (dIsE3 m1 m2 m3 de) :=
  peImp (pe_callB call_isE3 hg hm (by decide +kernel) (pa_cons h (pa_cons (pe_tup (pa_cons n1 (pa_cons n2 (pa_cons n3 pa_nil)))) pa_nil) he) (by decide) (by decide) he hpl) fun σ H Q ⟨F, ds, ms, P, R, S, d1, d2⟩ =>
    ⟨F, ds, ms, _, R, S, d1, fun d m v F1 H1 k1 R1 s1 q1 => by
      match d, k1, q1 with
      | .exc c ns ys, ⟨b, ob, k2⟩, .exc (a := a) (d := dd) (vs := vs) h0 ha hx hs =>
        unfold or3B at ob
        cases l1 : m1.lookup c with
        | none => rw [l1] at ob; cases ob
        | some b1 =>
          cases l2 : m2.lookup c with
          | none => rw [l1, l2] at ob; cases ob
          | some b2 =>
          cases l3 : m3.lookup c with
          | none => rw [l1, l2, l3] at ob; cases ob
          | some b3 =>
            rw [l1, l2, l3] at ob
            cases ob
            obtain ⟨C, rfl, hC, t1⟩ := h1 c b1 _ l1 h0
            obtain ⟨C', eC, _, t2⟩ := h2 c b2 _ l2 h0
            cases eC
            obtain ⟨C3, eC3, _, t3⟩ := h3 c b3 _ l3 h0
            cases eC3
            refine ⟨(show 3 ≤ sizeLine by decide), fun tp htp => ⟨a, C, tp, dd, ns.zip vs, v1, v2, v3, w1, w2, w3, b1 || (b2 || b3), rfl, Sub.new htp _ _ (R1.sub _ _ ha), ?_, hC, upd_same, r1, r2, r3, ?_, ?_⟩⟩
            · rcases hx with ⟨z, _, _⟩ | ⟨dx, z, z2, _⟩
              · exact .inl z
              · exact .inr ⟨dx, z, Sub.new htp _ _ (R1.sub _ _ z2)⟩
            · refine kitAny_cons t1 (fun z => ?_) fun z => by rw [z]; rfl
              subst z
              refine kitAny_cons t2 (fun z => ?_) fun z => by rw [z]; rfl
              subst z
              exact kitAny_cons t3 (fun z => by subst z; exact kitAny_nil) fun z => by rw [z]; rfl
            · exact d2 _ m _ (upd F1 tp (.tup [v1, v2, v3])) _ k2 (R1.new htp) (s1.trans (Stp.new R1 htp)) (.bl _)⟩
section
variable {ds : DS} {ms m : MS} {P : D → MS → Prop} {de : DE} {m1 m2 m3 : List (Str × Bool)} {c : Str} {ns : List Str} {xs : List D} {b : Bool}
theorem w_isE3 (h : ExG de ds ms fun d m => mIsE3 m1 m2 m3 d m P) : dIsE3 m1 m2 m3 de ds ms P := h
theorem w_mIsE3 (e : or3B m1 m2 m3 c = some b) (h : P (.bl b) m) : mIsE3 m1 m2 m3 (.exc c ns xs) m P := ⟨b, e, h⟩
end
end DL
namespace DL
open PySem PySem.Spec PyProof.Rows L2
def seen (m : MS) : D → Option (List D)
  | .lst a => some a
  | .opq (.ref p) => look m p
  | _ => none
def fAddL : OF := fun x y ms P => ∃ a b, seen ms x = some a ∧ seen ms y = some b ∧ a.length + b.length ≤ sizeLine ∧ ∀ p, (∀ q ∈ ms, q.1 ≠ p) → P (.opq (.ref p)) ((p, a ++ b) :: ms)
theorem seen_at {K : PySem.W.Frag} {F H : Hp} {ms : MS} {v : V} {d : D} {a : List D} (R : Rel K F H ms) (r : DR K F v d) (e : seen ms d = some a) : ∃ p vs, v = .ref p ∧ H p = some (.lst vs) ∧ DRs K F vs a := by
  cases r with
  | lst h1 r1 => cases e; exact ⟨_, _, rfl, R.sub _ _ h1, r1⟩
  | opq z =>
    cases v with
    | ref p =>
      obtain ⟨_, vs, h1, r1⟩ := R.look e
      exact ⟨p, vs, rfl, h1, r1⟩
    | _ => cases e
  | _ => cases e
theorem opd_addL {K : PySem.W.Frag} : OpD K (rAddD K) fAddL := by
  intro F H ms x y dx dy P Q R rx ry h q
  obtain ⟨a, b, ea, eb, hz, h⟩ := h
  obtain ⟨p1, v1, rfl, h1, r1⟩ := seen_at R rx ea
  obtain ⟨p2, v2, rfl, h2, r2⟩ := seen_at R ry eb
  refine .inr (.inr (.inl ⟨_, _, _, _, rfl, rfl, h1, h2, by rw [r1.length, r2.length]; exact hz, fun p hp => ?_⟩))
  exact q _ _ _ F _ (h p (R.newMut hp (r1.append r2)).1) (R.newMut hp (r1.append r2)).2 (Stp.newMut hp) (.opq _)
end DL
namespace DL
open PySem PySem.Spec PyProof.Rows L2
end DL
namespace DL
open PySem PySem.Spec PyProof.Rows L2 SX TL NumText
end DL
namespace DL
open PySem PySem.Spec PyProof.Rows L2
theorem DRs.less {K : PySem.W.Frag} {F : Hp} : ∀ {vs : List V} {ds : List D} (k : Nat), DRs K F vs ds → DRs K F (vs.eraseIdx k) (ds.eraseIdx k)
  | [], _, _, .nil => .nil
  | _ :: _, _, 0, .cons _ r => r
  | _ :: _, _, k + 1, .cons a r => .cons a (DRs.less k r)
def mPopAt (x y : D) (m : MS) (P : D → MS → Prop) : Prop := ∃ p xs i k d, x = .opq (.ref p) ∧ y = .int i ∧ look m p = some xs ∧ -(2 ^ 63) ≤ i ∧ i < 2 ^ 63 ∧ seqIndex? i xs.length = some k ∧ xs[k]? = some d ∧ P d (put m p (xs.eraseIdx k))
def dPopAt (dx : DE) (aa : DA) : DE := fun ds ms P => dx ds ms fun x m => (∃ p xs, x = .opq (.ref p) ∧ look m p = some xs) ∧ aa ds m fun ys m2 => ∃ y, ys = [y] ∧ mPopAt x y m2 P
section
variable {X : Cx} {o e : Expr} {dx : DE} {aa : DA} {apos cpos : Pos}
theorem pd_popAt (ho : PD X o dx) (ha : PDA X [e] aa)
    (hbase : attributeBase o "pop" X.env (eval o X.env) = eval o X.env := by rfl)
    (hfew : ((backTo cpos (starEach [e] X.env)).all (fun x => !x.1) && (backToKw cpos (keywordEach [] X.env)).all (fun x => x.1.isSome) && decide ([e].length + ([] : List Keyword).length + (if ([] : List Keyword).isEmpty then 0 else 1) < 30)) = true := by rfl)
    (hline : (apos.endLine == cpos.line) = true := by rfl) (hs : starEach [e] X.env = (false, eval e X.env) :: starEach [] X.env := by rfl) (hplain : (backTo cpos (starEach [] X.env)).any (·.1) = false := by rfl) :
    PD X (.Call (.Attribute o "pop" apos) [e] [] cpos) (dPopAt dx aa) :=
  peImp (pe_bm PySem.F.plainAttrs_list PySem.F.slot_list_pop PySem.F.type_list_pop mt_popAt ho ha hbase hfew hline hs hplain) fun σ H Q ⟨F, ds, ms, P, R, S, h1, h2⟩ =>
    ⟨F, ds, ms, _, R, S, h1, fun x m v F1 H1 p1 R1 s1 r1 => by
      obtain ⟨⟨p, xs0, rfl, e0⟩, p1⟩ := p1
      cases r1
      obtain ⟨_, vs0, hH0, _⟩ := R1.look e0
      refine ⟨.inl ⟨rfl, vs0, SqL.of hH0⟩, F1, ds, m, _, R1, S.mono s1.sub, p1, fun ys m2 ws F2 H2 p2 R2 s2 r2 => ?_⟩
      obtain ⟨y, rfl, q, xs, i, k, d, eq_, rfl, e1, lo, hi, ek, ed, p2⟩ := p2
      cases eq_
      match r2 with
      | .cons (.int _) .nil =>
        obtain ⟨_, vs, hH, rs⟩ := R2.look e1
        obtain ⟨w, ew, rw_⟩ := rs.get ed
        exact ⟨p, vs, i, k, w, rfl, rfl, hH, lo, hi, by rw [rs.length]; exact ek, ew, h2 _ _ _ F2 _ p2 (relPut R2 e1 (rs.less k)) ((s1.trans s2).trans (stpPut R2 e1)) rw_⟩⟩
end
theorem DRs.wholes {K : PySem.W.Frag} {F : Hp} : ∀ {vs : List V} {ns : List Int}, DRs K F vs (ns.map D.int) → vs = ns.map V.int
  | [], [], .nil => rfl
  | _ :: _, n :: ns, .cons (.int _) r => by rw [DRs.wholes (ns := ns) r]; rfl
theorem DRs.ofWholes {K : PySem.W.Frag} {F : Hp} : ∀ ns : List Int, DRs K F (ns.map V.int) (ns.map D.int)
  | [] => .nil
  | n :: ns => .cons (.int n) (DRs.ofWholes ns)
def cSorted : CF := fun xs ms P => match xs with
  | [d] => ∃ ns : List Int, asL d ms = some (ns.map D.int) ∧ ∀ os : List Int, os.Perm ns → os.Pairwise (· ≤ ·) → P (.lst (os.map D.int)) ms
  | _ => False
theorem cal_sorted {K : PySem.W.Frag} : CalD K (rSortedI K) cSorted := fun F H ms vs xs P Q R r h q => by
  match xs, r, h with
  | [d], .cons (v := v) rd .nil, ⟨ns, e, h⟩ =>
    obtain ⟨a, ws, rfl, h1, h2⟩ := R.asL rd e
    have ew := h2.wholes
    subst ew
    exact ⟨a, ns, rfl, h1, fun os p perm up hl => q _ ms _ _ _ (h os perm up) (R.new hl) (Stp.new R hl) (R.newLst hl (DRs.ofWholes os))⟩
theorem w_sorted {d : D} {m : MS} {P : D → MS → Prop} {ns : List Int} (e : asL d m = some (ns.map D.int)) (h : ∀ os : List Int, os.Perm ns → os.Pairwise (· ≤ ·) → P (.lst (os.map D.int)) m) : cSorted [d] m P := ⟨ns, e, h⟩
section
variable {ds : DS} {ms m m' : MS} {P : D → MS → Prop} {de : DE} {aa : DA} {p : Addr} {xs ys : List D} {d : D} {i : Int} {k : Nat}
theorem w_mPopAt (e : look m p = some xs) (lo : 0 ≤ i) (hi : i < (xs.length : Int)) (few : xs.length ≤ 1000000) (ed : xs[i.toNat]? = some d) (e2 : put m p (xs.eraseIdx i.toNat) = m') (h : P d m') : mPopAt (.opq (.ref p)) (.int i) m P :=
  ⟨p, xs, i, i.toNat, d, rfl, rfl, e, by omega, by omega, by
    unfold seqIndex?
    first
      | (rw [if_neg (by omega), if_pos (by omega)])
      | (simp; omega), ed, by rw [e2]; exact h⟩
end
end DL
namespace DL
open PySem PySem.Spec PyProof.Rows L2
def dCallF (n m : Nat) (f1 f2 : Addr) (is1 is2 : List Nat) (fs1 fs2 : FS) (df : DE) (aa ak : DA) : DE := fun ds ms P => df ds ms fun d m1 =>
  (d = .opq (.ref f1) ∧ dCall n m is1 fs1 aa ak ds m1 P) ∨ (d = .opq (.ref f2) ∧ dCall n m is2 fs2 aa ak ds m1 P)
def tCallF (n m : Nat) (f1 f2 : Addr) (is1 is2 : List Nat) (sp1 sp2 : Sp) (tf : TE) (t tk : TA) : TE := fun σ H Q => tf σ H fun y H1 =>
  (y = .ref f1 ∧ tCallG n m is1 sp1 t tk σ H1 Q) ∨ (y = .ref f2 ∧ tCallG n m is2 sp2 t tk σ H1 Q)
theorem lift_callF {K : PySem.W.Frag} {n m : Nat} {f1 f2 : Addr} {is1 is2 : List Nat} {fs1 fs2 : FS} {df : DE} {aa ak : DA} : ∀ σ H Q, lift K (dCallF n m f1 f2 is1 is2 fs1 fs2 df aa ak) σ H Q →
    tCallF n m f1 f2 is1 is2 (spD K fs1) (spD K fs2) (lift K df) (liftA K aa) (liftA K ak) σ H Q := fun σ H Q ⟨F, ds, ms, P, R, S, h1, h2⟩ =>
  ⟨F, ds, ms, _, R, S, h1, fun d m1 v F1 H1 p1 R1 s1 r1 => by
    rcases p1 with ⟨rfl, p1⟩ | ⟨rfl, p1⟩
    · cases r1
      exact .inl ⟨rfl, lift_call σ H1 Q ⟨F1, ds, m1, P, R1, S.mono s1.sub, p1, fun d m3 v F3 H3 p3 R3 s3 r3 => h2 d m3 v F3 H3 p3 R3 (s1.trans s3) r3⟩⟩
    · cases r1
      exact .inr ⟨rfl, lift_call σ H1 Q ⟨F1, ds, m1, P, R1, S.mono s1.sub, p1, fun d m3 v F3 H3 p3 R3 s3 r3 => h2 d m3 v F3 H3 p3 R3 (s1.trans s3) r3⟩⟩⟩
/-- how such a call is worked out: first what is called -/
structure CallE (X : Cx) (fe : Expr) (es : List Expr) (kws : List Keyword) (pos : Pos) : Prop where
  go : ∀ (Q : Value → Shared → Prop) (s : Shared), wpAny (model X.prog X.w) X.A (eval fe X.env) (fun f s₁ => wpAny (model X.prog X.w) X.A (callWith pos f [] (backTo pos (starEach es X.env)) (backToKw pos (keywordEach kws X.env))) Q X.xe s₁) X.xe s →
    wpAny (model X.prog X.w) X.A (eval (.Call fe es kws pos) X.env) Q X.xe s
theorem callE_name {X : Cx} {x : Str} {p pos : Pos} {es : List Expr} {kws : List Keyword} : CallE X (.Name x p) es kws pos := ⟨fun Q s h => wpAny_Call_Name_kw h⟩
theorem callE_ix {X : Cx} {a b : Expr} {p pos : Pos} {es : List Expr} {kws : List Keyword} : CallE X (.Subscript a b p) es kws pos := ⟨fun Q s h => by
  show wpAny _ _ (do callWith pos (← eval (.Subscript a b p) X.env) [] (backTo pos (starEach es X.env)) (backToKw pos (keywordEach kws X.env))) _ _ _
  exact wpAny_bind h⟩
section
variable {X : Cx} {k1 k2 k n m : Nat} {f f1 f2 : Addr} {fd fd1 fd2 : FuncData} {ps ps1 ps2 ks : List Str} {is is1 is2 : List Nat} {fs fs1 fs2 : FS} {pos : Pos} {fe e : Expr} {es : List Expr} {kws : List Keyword} {aa ak : DA} {df : DE}
theorem go_pos {pins : List (Addr × Obj)} {σ : L2.St} {H : Hp} {s : Shared} {Q : VK} (F : FnG X.prog X.w X.K X.mg X.base k f fd ps (spD X.K fs)) (hr : RoomG k X.A) (hk : PySem.W.keepIn X.K (.ref f) = true) (hb : Bnd X.K fd ps n [] is)
    (ha : PDA X (e :: es) aa) (he : starEach (e :: es) X.env = (false, eval e X.env) :: starEach es X.env) (hpl : (backTo pos (starEach es X.env)).any (·.1) = false)
    (I : Inv X pins σ H s) (h : tCallG n 0 is (spD X.K fs) (liftA X.K aa) (liftA X.K aNil) σ H Q) :
    wpAny (model X.prog X.w) X.A (callWith pos (.ref f) [] (backTo pos (starEach (e :: es) X.env)) (backToKw pos (keywordEach [] X.env))) (EP X pins σ Q) X.xe s := by
  have h' : liftA X.K aa σ H (fun vs H1 => vs.length = n ∧ spD X.K fs (pick is (vs ++ [])) H1 Q E0) := by
    obtain ⟨F0, ds, ms, P, R, S, h1, h2⟩ := h
    refine ⟨F0, ds, ms, P, R, S, h1, fun xs m v F1 H1 p1 R1 s1 r1 => ?_⟩
    obtain ⟨F2, ds2, m2, P2, R2, S2, p2, q2⟩ := h2 xs m v F1 H1 p1 R1 s1 r1
    obtain ⟨l1, l2, z⟩ := q2 [] m2 [] F2 H1 p2 R2 Stp.refl .nil
    exact ⟨l1, z⟩
  refine PySem.W.callWith_K (h₀ := X.base) I.ok.mod.kin hk (thn (ha.run pos pins s σ H _ I h') ?_) he hpl
  rintro us s1 ⟨vs, H1, I1, r, l, q⟩
  exact ⟨I1.kIn, run_g (ws := []) (ks := []) F hr hb I1 r .nil l rfl q⟩
theorem go_kw {pins : List (Addr × Obj)} {σ : L2.St} {H : Hp} {s : Shared} {Q : VK} (F : FnG X.prog X.w X.K X.mg X.base k f fd ps (spD X.K fs)) (hr : RoomG k X.A) (hk : PySem.W.keepIn X.K (.ref f) = true) (hb : Bnd X.K fd ps 0 ks is)
    (hkw : PDK X kws ak) (hall : (backToKw pos (keywordEach kws X.env)).all (·.1.isSome) = true) (hks : (backToKw pos (keywordEach kws X.env)).filterMap (·.1) = ks)
    (hpl : ((backTo pos (starEach [] X.env)).any (·.1) || (backToKw pos (keywordEach kws X.env)).any (·.1.isNone)) = false)
    (I : Inv X pins σ H s) (h : tCallG 0 ks.length is (spD X.K fs) (liftA X.K aNil) (liftA X.K ak) σ H Q) :
    wpAny (model X.prog X.w) X.A (callWith pos (.ref f) [] (backTo pos (starEach [] X.env)) (backToKw pos (keywordEach kws X.env))) (EP X pins σ Q) X.xe s := by
  have h' : liftA X.K ak σ H (fun zs H1 => zs.length = ks.length ∧ spD X.K fs (pick is ([] ++ zs)) H1 Q E0) := by
    obtain ⟨F0, ds, ms, P, R, S, h1, h2⟩ := h
    obtain ⟨F2, ds2, m2, P2, R2, S2, p2, q2⟩ := h2 [] ms [] F0 H h1 R Stp.refl .nil
    exact ⟨F2, ds2, m2, P2, R2, S2, p2, fun zs m3 ws F3 H3 p3 R3 s3 r3 => (q2 zs m3 ws F3 H3 p3 R3 s3 r3).2⟩
  refine PySem.W.callWith_KW0 (h₀ := X.base) I.ok.mod.kin hk hall (thn (hkw.run pos pins s σ H _ I h') ?_) hpl
  rintro ws s2 ⟨zs, H2, I2, rz, l2, q2⟩
  refine ⟨I2.kIn, ?_⟩
  rw [hks]
  exact run_g (us := []) F hr hb I2 .nil rz rfl l2 q2
theorem pd_callF (FF1 : FnG X.prog X.w X.K X.mg X.base k1 f1 fd1 ps1 (spD X.K fs1)) (F2 : FnG X.prog X.w X.K X.mg X.base k2 f2 fd2 ps2 (spD X.K fs2)) (hr1 : RoomG k1 X.A) (hr2 : RoomG k2 X.A)
    (hk1 : PySem.W.keepIn X.K (.ref f1) = true) (hb1 : Bnd X.K fd1 ps1 n [] is1) (hk2 : PySem.W.keepIn X.K (.ref f2) = true) (hb2 : Bnd X.K fd2 ps2 n [] is2)
    (hc : CallE X fe (e :: es) [] pos) (hf : PD X fe df) (ha : PDA X (e :: es) aa)
    (he : starEach (e :: es) X.env = (false, eval e X.env) :: starEach es X.env := by rfl) (hpl : (backTo pos (starEach es X.env)).any (·.1) = false := by rfl) :
    PD X (.Call fe (e :: es) [] pos) (dCallF n 0 f1 f2 is1 is2 fs1 fs2 df aa aNil) := by
  refine peImp (t := tCallF n 0 f1 f2 is1 is2 (spD X.K fs1) (spD X.K fs2) (lift X.K df) (liftA X.K aa) (liftA X.K aNil)) ⟨fun pins s σ H Q I h => ?_⟩ lift_callF
  refine hc.go _ _ (thn (hf.run pins s σ H _ I h) ?_)
  rintro v s1 ⟨y, H1, I1, rv, hh⟩
  rcases hh with ⟨rfl, hh⟩ | ⟨rfl, hh⟩
  · obtain rfl : v = .ref f1 := rv
    exact go_pos FF1 hr1 hk1 hb1 ha he hpl I1 hh
  · obtain rfl : v = .ref f2 := rv
    exact go_pos F2 hr2 hk2 hb2 ha he hpl I1 hh
theorem pd_callFK0 (FF1 : FnG X.prog X.w X.K X.mg X.base k1 f1 fd1 ps1 (spD X.K fs1)) (F2 : FnG X.prog X.w X.K X.mg X.base k2 f2 fd2 ps2 (spD X.K fs2)) (hr1 : RoomG k1 X.A) (hr2 : RoomG k2 X.A)
    (hk1 : PySem.W.keepIn X.K (.ref f1) = true) (hb1 : Bnd X.K fd1 ps1 0 ks is1) (hk2 : PySem.W.keepIn X.K (.ref f2) = true) (hb2 : Bnd X.K fd2 ps2 0 ks is2)
    (hc : CallE X fe [] kws pos) (hf : PD X fe df) (hkw : PDK X kws ak)
    (hall : (backToKw pos (keywordEach kws X.env)).all (·.1.isSome) = true := by rfl) (hks : (backToKw pos (keywordEach kws X.env)).filterMap (·.1) = ks := by rfl)
    (hpl : ((backTo pos (starEach [] X.env)).any (·.1) || (backToKw pos (keywordEach kws X.env)).any (·.1.isNone)) = false := by rfl) (hlen : ks.length = m := by rfl) :
    PD X (.Call fe [] kws pos) (dCallF 0 m f1 f2 is1 is2 fs1 fs2 df aNil ak) := by
  subst hlen
  refine peImp (t := tCallF 0 ks.length f1 f2 is1 is2 (spD X.K fs1) (spD X.K fs2) (lift X.K df) (liftA X.K aNil) (liftA X.K ak)) ⟨fun pins s σ H Q I h => ?_⟩ lift_callF
  refine hc.go _ _ (thn (hf.run pins s σ H _ I h) ?_)
  rintro v s1 ⟨y, H1, I1, rv, hh⟩
  rcases hh with ⟨rfl, hh⟩ | ⟨rfl, hh⟩
  · obtain rfl : v = .ref f1 := rv
    exact go_kw FF1 hr1 hk1 hb1 hkw hall hks hpl I1 hh
  · obtain rfl : v = .ref f2 := rv
    exact go_kw F2 hr2 hk2 hb2 hkw hall hks hpl I1 hh
end
def mCallF (n m : Nat) (f1 f2 : Addr) (is1 is2 : List Nat) (fs1 fs2 : FS) (aa ak : DA) (ds : DS) (P : D → MS → Prop) (d : D) (m1 : MS) : Prop :=
  (d = .opq (.ref f1) ∧ dCall n m is1 fs1 aa ak ds m1 P) ∨ (d = .opq (.ref f2) ∧ dCall n m is2 fs2 aa ak ds m1 P)
section
variable {n m : Nat} {f1 f2 : Addr} {is1 is2 : List Nat} {fs1 fs2 : FS} {df : DE} {aa ak : DA} {ds : DS} {ms : MS} {P : D → MS → Prop} {d : D}
theorem w_callF (h : ExG df ds ms fun d m1 => mCallF n m f1 f2 is1 is2 fs1 fs2 aa ak ds P d m1) : dCallF n m f1 f2 is1 is2 fs1 fs2 df aa ak ds ms P := h
theorem w_mCallF1 (h : ExG (dCall n m is1 fs1 aa ak) ds ms P) : mCallF n m f1 f2 is1 is2 fs1 fs2 aa ak ds P (.opq (.ref f1)) ms := .inl ⟨rfl, h⟩
theorem w_mCallF2 (h : ExG (dCall n m is2 fs2 aa ak) ds ms P) : mCallF n m f1 f2 is1 is2 fs1 fs2 aa ak ds P (.opq (.ref f2)) ms := .inr ⟨rfl, h⟩
end
theorem pdss_all {X : Cx} {ss : List Stmt} {t t' : DTS} (h : PDSs X ss t') (hi : ∀ E ds ms, t E ds ms → t' E ds ms) : PDSs X ss t :=
  ⟨fun pins s σ H D I ⟨F, ds, ms, E, R, S, h1, r⟩ => h.run pins s σ H D I ⟨F, ds, ms, E, R, S, hi E ds ms h1, r⟩⟩
def mListRM (d : D) (m : MS) (P : D → MS → Prop) : Prop := match d with
  | .int n => (0 ≤ n ∧ n ≤ 16777216) ∧ ∀ p, (∀ q ∈ m, q.1 ≠ p) → P (.opq (.ref p)) ((p, rng 0 n.toNat) :: m)
  | _ => False
def dListRM (da : DE) : DE := fun ds ms P => da ds ms fun d m => mListRM d m P
theorem pd_listRM {X : Cx} {a : Expr} {da : DE} {p p2 pos pos2 : Pos} (hc : X.calm = true) (hl : Gl X "list") (ml : X.mg "list" = none) (hr : Gl X "range") (mr : X.mg "range" = none) (ha : PD X a da)
    (n1 : starEach [Expr.Call (.Name "range" p2) [a] [] pos2] X.env = (false, eval (Expr.Call (.Name "range" p2) [a] [] pos2) X.env) :: starEach [] X.env := by rfl) (n2 : starEach [a] X.env = (false, eval a X.env) :: starEach [] X.env := by rfl) :
    PD X (.Call (.Name "list" p) [.Call (.Name "range" p2) [a] [] pos2] [] pos) (dListRM da) :=
  peImp (pe_listRg hc hl ml (prg_1 hr mr ha n2) n1) fun σ H Q ⟨F, ds, ms, P, R, S, h1, h2⟩ =>
    ⟨F, ds, ms, _, R, S, h1, fun d m v F1 H1 p1 R1 s1 r1 => by
      match d, r1, p1 with
      | .int n, .int _, p1 =>
        exact ⟨n, rfl, RgOk.of_le (Int.le_refl 0) p1.1.2 (by decide) p1.1.1, fun q hq => h2 _ _ _ F1 _ (p1.2 q (R1.newMut hq (drs_rgV n)).1) (R1.newMut hq (drs_rgV n)).2 (s1.trans (Stp.newMut hq)) (.opq _)⟩⟩
theorem w_listRM {da : DE} {ds : DS} {ms : MS} {P : D → MS → Prop} (h : ExG da ds ms fun x m => mListRM x m P) : dListRM da ds ms P := h
theorem w_mListRM {n : Int} {m : MS} {P : D → MS → Prop} (e : 0 ≤ n ∧ n ≤ 16777216) (h : ∀ p, (∀ q ∈ m, q.1 ≠ p) → P (.opq (.ref p)) ((p, rng 0 n.toNat) :: m)) : mListRM (.int n) m P := ⟨e, h⟩
section
open PySem.SeqAt PySem.MeetsSeq
open AutoSeq1 (wpAny_loadPart')
theorem dict_eq_declines_list (l b : Addr) (es : Array DictEntry) (ep n2 : Nat) (items2 : Array Value) (dd dd2 : Option Addr) (sl sl2 : Array (Option Value)) :
    Meets (Builtin.«dict.__eq__» ⟨[.ref l, .ref b], []⟩) (fun _ R s => s.heap.get? l = some { cls := .type "dict", dict := dd, data := .dict es ep, slots := sl } ∧ s.heap.get? b = some { cls := .type "list", dict := dd2, data := .seq items2 n2, slots := sl2 } ∧ R (.ok (.ret .notImplemented)) s) :=
  .of_wp fun prog w A R s h => by obtain ⟨hp, g, d, tk, os⟩ := s; obtain ⟨hl, hb, h⟩ := h; have f1 := F.sub_list_dict; wp_walk using wpAny_loadPart' hl, wpAny_loadPart' hb; exact ⟨_, rfl, h⟩
theorem list_eq_declines_dict (l b : Addr) (es : Array DictEntry) (ep n2 : Nat) (items2 : Array Value) (dd dd2 : Option Addr) (sl sl2 : Array (Option Value)) :
    Meets (Builtin.«list.__eq__» ⟨[.ref b, .ref l], []⟩) (fun _ R s => s.heap.get? l = some { cls := .type "dict", dict := dd, data := .dict es ep, slots := sl } ∧ s.heap.get? b = some { cls := .type "list", dict := dd2, data := .seq items2 n2, slots := sl2 } ∧ R (.ok (.ret .notImplemented)) s) :=
  .of_wp fun prog w A R s h => by obtain ⟨hp, g, d, tk, os⟩ := s; obtain ⟨hl, hb, h⟩ := h; have f1 := F.sub_dict_list; wp_walk using wpAny_loadPart' hl, wpAny_loadPart' hb; exact ⟨_, rfl, h⟩
end
def rEqDL : R2 := fun x y H Q => ∃ a b vs, x = .ref a ∧ y = .ref b ∧ H a = some (.dK []) ∧ H b = some (.lst vs) ∧ Q (.bl false) H
theorem op_eqDL {X : Cx} (hu : X.A.units + 64 < cLine) : OpR X (compareOp .Eq) rEqDL := by
  intro pins s σ H x y v u Q I rx ry h
  obtain ⟨a, b, vs, rfl, rfl, ea, eb, q⟩ := h
  obtain rfl : v = Value.ref a := rx
  obtain rfl : u = Value.ref b := ry
  obtain ⟨_, ya, va, ra, da⟩ := (show ObjOk X.prog X.w H s.heap a (.dK []) from I.hok a _ ea)
  obtain ⟨oa, es, ep, hoa, hx, hda, _, _, _⟩ := da
  obtain ⟨i2, v2, ⟨o2, n2, p2, c2, _, d2⟩, _⟩ := I.list (SqL.of eb)
  obtain ⟨cls, dd, data, sl⟩ := oa
  obtain ⟨cls2, dd2, data2, sl2⟩ := o2
  have hc : cls = .type "dict" := hx.1
  simp only at hc hda c2 d2
  subst hc hda c2 d2
  have hne : a ≠ b := fun e => by
    subst e
    rw [ea] at eb; cases eb
  exact SeqAt.rc_eq_decline_or (k := false) ⟨_, hoa, rfl⟩ ⟨_, p2, rfl⟩ (by decide) F.sub_list_dict F.slot_dict_eq F.slot_list_eq_refl
    (fun _ hq => call_meets F.slot_dict_eq ⟨_, hoa, rfl⟩ F.entry_dict_eq (F.args_dict_eq_2 _ _) (dict_eq_declines_list a b es ep n2 _ dd dd2 sl sl2) ⟨hoa, p2, hq⟩)
    (fun _ hq => call_meets F.slot_list_eq_refl ⟨_, p2, rfl⟩ F.entry_list_eq (F.args_list_eq_2 _ _) (list_eq_declines_dict a b es ep n2 _ dd dd2 sl sl2) ⟨hoa, p2, hq⟩)
    (fun _ hq => SeqAt.wpAny_isSame_ref_other' hne hoa p2 (by simp) hq) (.inr (by omega)) ⟨.bl false, H, I, rfl, q⟩
def fEqX : OF := fun x y ms P => match x, y with
  | .edic, .lst _ => P (.bl false) ms
  | _, _ => fEq x y ms P
theorem op_eqX {X : Cx} (hu : X.A.units + 64 < cLine) : OpR X (compareOp .Eq) (fun x y H Q => rEqA X.K x y H Q ∨ rEqDL x y H Q) := (op_eqF hu).or (op_eqDL hu)
theorem fEqX_else {x y : D} {ms : MS} {P : D → MS → Prop} (hn : ∀ ys, ¬ (x = .edic ∧ y = .lst ys)) (h : fEqX x y ms P) : fEq x y ms P := by
  unfold fEqX at h
  split at h
  · exact absurd ⟨rfl, rfl⟩ (hn _)
  · exact h
theorem opd_eqX {K : PySem.W.Frag} : OpD K (fun x y H Q => rEqA K x y H Q ∨ rEqDL x y H Q) fEqX := fun F H ms x y dx dy P Q R rx ry h q => by
  by_cases e : ∃ ys, dx = .edic ∧ dy = .lst ys
  · obtain ⟨ys, rfl, rfl⟩ := e
    cases rx with
    | edic ha => cases ry with
      | lst hb hs => exact .inr ⟨_, _, _, rfl, rfl, R.sub _ _ ha, R.sub _ _ hb, q _ ms _ F H h R Stp.refl (.bl _)⟩
  · exact .inl (opd_eq F H ms x y dx dy P Q R rx ry (fEqX_else (fun ys z => e ⟨ys, z⟩) h) q)
end DL
namespace Pf
open PySem PySem.Spec PyProof.Rows L2 DL
local macro_rules | `(tactic| walk_at "dl") => `(tactic| simp only [dSeq, dWhile, dTest, dOp, dVar, dC, dPar, dRet, dRetN, dCB, dAsg, dIfS, dNext, dTup, dLst, dLstM, dCall, dNeg, dSetIx, dDrop, dAnd, dOr, dNot, dAndV, dOrV, dNotV, dIf, dFor, dLc, dSl, dIsi, dYes, dTru, truD, dAppend, dFrz,
  aNil, aCons, oNone, oSome, sName, sTup, sCons, sNil, iRange1, iRange2, iSeq, iTupD, iZipD, iEnumD, slot, setSlot, startD, List.length_nil, List.length_cons, Nat.reduceAdd, List.append_nil, List.cons_append, List.nil_append, pick, List.filterMap_cons, List.filterMap_nil, List.getElem?_cons_zero, List.getElem?_cons_succ,
  fI, fAdd, fSub, fMul, fDiv, fMod, fPow, fLt, fLe, fGt, fGe, fEq, fNe, cAbs, cMax2, cMin2, cInt1, cLen, cRepr, true_and, and_true, decide_eq_true_eq, if_true, dDoX, dRaise, dRaiseI, dExprZ, dRetZ, dAsgZ, dCallZ, dTry0, dTry, dIsE, dFld, dEdic, EN.lp, EN.wn, EN.wx])
theorem t9 : (10 : Int) ^ Int.toNat 9 = 1000000000 := by decide +kernel
theorem t6 : (10 : Int) ^ Int.toNat 6 = 1000000 := by decide +kernel
theorem t18 : (10 : Int) ^ Int.toNat 18 = 1000000000000000000 := by decide +kernel
theorem t30 : (10 : Int) ^ Int.toNat 30 = 1000000000000000000000000000000 := by decide +kernel
theorem t39 : (10 : Int) ^ Int.toNat 39 = 1000000000000000000000000000000000000000 := by decide +kernel
theorem t56 : (10 : Int) ^ Int.toNat 56 = 100000000000000000000000000000000000000000000000000000000 := by decide +kernel
theorem t60 : (10 : Int) ^ Int.toNat 60 = 1000000000000000000000000000000000000000000000000000000000000 := by decide +kernel
theorem t40 : (10 : Int) ^ Int.toNat 40 = 10000000000000000000000000000000000000000 := by decide +kernel
theorem t50 : (10 : Int) ^ Int.toNat 50 = 100000000000000000000000000000000000000000000000000 := by decide +kernel
theorem t59 : (10 : Int) ^ Int.toNat 59 = 100000000000000000000000000000000000000000000000000000000000 := by decide +kernel
theorem t58 : (10 : Int) ^ Int.toNat 58 = 10000000000000000000000000000000000000000000000000000000000 := by decide +kernel
def Bd (n : Nat) (x : Int) : Prop := x.natAbs < 2 ^ n
theorem Bd.mono {n m : Nat} {x : Int} (h : Bd n x) (hm : n ≤ m) : Bd m x := Nat.lt_of_lt_of_le h (Nat.pow_le_pow_right (by decide) hm)
theorem Bd.add {n : Nat} {x y : Int} (h : Bd n x) (h2 : Bd n y) : Bd (n + 1) (x + y) := by
  unfold Bd at *
  have := Int.natAbs_add_le x y
  rw [Nat.pow_succ]
  omega
theorem Bd.log {n : Nat} {x : Int} (h : Bd n x) (h0 : 0 < n) : x.natAbs.log2 < n := PySem.Flt.log2_lt_of h0 h
mutual
def wt : PyData → Nat
  | .none => 10
  | .bool _ => 10
  | .int _ => 2000
  | .str x => 10 * x.length + 10
  | .list xs => wts xs + 10
  | .tuple xs => wts xs + 10
  | .dict _ => 10
def wts : List PyData → Nat
  | [] => 0
  | x :: r => wt x + 2 + wts r
end
mutual
def lay1 : PyData → Bool
  | .none => true
  | .bool _ => true
  | .int _ => true
  | .str x => x.cps.all (· < 0x110000)
  | .list xs => lay1s xs
  | .tuple xs => lay1s xs
  | .dict kvs => kvs.isEmpty
def lay1s : List PyData → Bool
  | [] => true
  | x :: r => lay1 x && lay1s r
end
mutual
theorem lay1_of : ∀ p : PyData, p.canLay0 = true → lay1 p = true
  | .none, _ => rfl
  | .bool _, _ => rfl
  | .int _, _ => rfl
  | .str x, h => h
  | .list xs, h => lay1s_of xs h
  | .tuple xs, h => lay1s_of xs h
  | .dict _, h => by cases h
theorem lay1s_of : ∀ xs : List PyData, PyData.canLayAll0 xs = true → lay1s xs = true
  | [], _ => rfl
  | x :: r, h => by
    obtain ⟨a1, a2⟩ := Bool.and_eq_true_iff.mp h
    show (lay1 x && lay1s r) = true
    rw [lay1_of x a1, lay1s_of r a2]; rfl
end
theorem listText_le (ts : List Str) : (listText ts).length ≤ piled ts + 4 := by
  have e : (listText ts).length = (textFrom 0 "[" ts).length + 1 := by
    show (textFrom 0 "[" ts ++ "]").length = _
    rw [strLen_append]; rfl
  cases ts with
  | nil => rw [e]; decide +kernel
  | cons t r =>
    have h1 : textFrom 0 "[" (t :: r) = textFrom 1 ("[" ++ (if 0 > 0 then ", " else "" : String) ++ t) r := rfl
    have h2 := textFrom_length_pos r 1 ("[" ++ (if 0 > 0 then ", " else "" : String) ++ t) (by decide)
    have h3 : (("[" : Str) ++ ((if 0 > 0 then ", " else "" : String) : Str) ++ t).length = 1 + t.length := by
      rw [strLen_append, strLen_append]
      show 1 + 0 + t.length = _
      omega
    rw [e, h1, h2, h3, piled_cons]
    omega
mutual
theorem shown_le : ∀ p : PyData, lay1 p = true → p.showable = true → p.shown.length ≤ wt p
  | .none, _, _ => by decide +kernel
  | .bool b, _, _ => by cases b <;> decide +kernel
  | .int i, _, h => by
    have := int_text_len_1921 (i := i) (of_decide_eq_true h)
    show (Str.ofString (toString i)).length ≤ 2000
    omega
  | .str x, h, _ => by
    have h' : x.cps.all (· < 0x110000) = true := h
    have := StrLaws.reprText_len x fun c hc => by
      rw [Array.all_eq_true'] at h'
      have z := of_decide_eq_true (h' c (Array.mem_toList_iff.mp hc))
      exact Nat.lt_trans z (by decide)
    show (reprText x).length ≤ 10 * x.length + 10
    omega
  | .list xs, h, h2 => by
    have := shownAll_le xs h h2
    have h3 := listText_le (PyData.shownAll xs)
    show (listText (PyData.shownAll xs)).length ≤ wts xs + 10
    omega
  | .tuple xs, h, h2 => by
    have := shownAll_le xs h h2
    have h3 := fmt_text (PyData.shownAll xs)
    show (tupleText (PyData.shownAll xs)).length ≤ wts xs + 10
    omega
  | .dict kvs, h, _ => by
    cases kvs with
    | nil => exact (by decide +kernel : (PyData.dict []).shown.length ≤ 10)
    | cons _ _ => cases h
theorem shownAll_le : ∀ xs : List PyData, lay1s xs = true → PyData.showableAll xs = true → piled (PyData.shownAll xs) ≤ wts xs
  | [], _, _ => Nat.le_refl 0
  | x :: r, h, h2 => by
    obtain ⟨a1, a2⟩ := Bool.and_eq_true_iff.mp h
    obtain ⟨b1, b2⟩ := Bool.and_eq_true_iff.mp h2
    have z1 := shown_le x a1 b1
    have z2 := shownAll_le r a2 b2
    show piled (PyData.shown x :: PyData.shownAll r) ≤ wt x + 2 + wts r
    rw [piled_cons]
    omega
end
structure Sm (d : D) (n k : Nat) : Prop where
  ex : ∃ p, toPy d = some p ∧ p.canLay0 = true ∧ p.showable = true ∧ wt p ≤ n ∧ p.depth ≤ k
theorem Sm.mono {d : D} {n k n' k' : Nat} (h : Sm d n k) (h1 : n ≤ n') (h2 : k ≤ k') : Sm d n' k' := by
  obtain ⟨p, a, b, c, e, f⟩ := h.ex
  exact ⟨p, a, b, c, Nat.le_trans e h1, Nat.le_trans f h2⟩
theorem Sm.shw {d : D} {n k : Nat} (h : Sm d n k) (hn : n ≤ 16000000 := by decide) (hk : k ≤ 60 := by decide) : Shw d := by
  obtain ⟨p, a, b, c, e, f⟩ := h.ex
  exact ⟨p, a, c, by omega, Nat.le_trans (shown_le p (lay1_of p b) c) (Nat.le_trans e (Nat.le_trans hn (by decide)))⟩
theorem Sm.sh {d : D} {n k : Nat} (h : Sm d n k) (hk : k ≤ 60 := by decide) : ShD d := by
  obtain ⟨p, a, b, c, e, f⟩ := h.ex
  refine ⟨p, a, ?_⟩
  unfold SeqAt.shaped
  rw [b, decide_eq_true (by omega : p.depth ≤ 64)]
  rfl
theorem sm_int {n : Nat} {i : Int} (h : Bd n i) (hn : n ≤ 1900 := by decide) : Sm (.int i) 2000 0 := by
  refine ⟨_, rfl, rfl, ?_, Nat.le_refl _, Nat.le_refl _⟩
  refine decide_eq_true (Nat.lt_of_lt_of_le (Bd.log (n := n + 1) (h.mono (Nat.le_succ n)) (Nat.succ_pos n)) (by omega))
theorem sm_str (x : Str) (h : x.cps.all (· < 0x110000) = true) : Sm (.str x) (10 * x.length + 10) 0 := ⟨_, rfl, h, rfl, Nat.le_refl _, Nat.le_refl _⟩
/-- the same, empty dicts too: for repr alone -/
structure Sd (d : D) (n k : Nat) : Prop where
  ex : ∃ p, toPy d = some p ∧ lay1 p = true ∧ p.showable = true ∧ wt p ≤ n ∧ p.depth ≤ k
theorem Sm.sd {d : D} {n k : Nat} (h : Sm d n k) : Sd d n k := by
  obtain ⟨p, a, b, c, e, f⟩ := h.ex
  exact ⟨p, a, lay1_of p b, c, e, f⟩
theorem Sd.mono {d : D} {n k n' k' : Nat} (h : Sd d n k) (h1 : n ≤ n') (h2 : k ≤ k') : Sd d n' k' := by
  obtain ⟨p, a, b, c, e, f⟩ := h.ex
  exact ⟨p, a, b, c, Nat.le_trans e h1, Nat.le_trans f h2⟩
theorem Sd.shw {d : D} {n k : Nat} (h : Sd d n k) (hn : n ≤ 16000000 := by decide) (hk : k ≤ 60 := by decide) : Shw d := by
  obtain ⟨p, a, b, c, e, f⟩ := h.ex
  exact ⟨p, a, c, by omega, Nat.le_trans (shown_le p b c) (Nat.le_trans e (Nat.le_trans hn (by decide)))⟩
theorem sd_all {n k : Nat} : ∀ xs : List D, (∀ x ∈ xs, Sd x n k) → ∃ ps, toPys xs = some ps ∧ lay1s ps = true ∧ PyData.showableAll ps = true ∧ wts ps ≤ (n + 2) * xs.length ∧ PyData.depthAll ps ≤ k
  | [], _ => ⟨[], rfl, rfl, rfl, Nat.zero_le _, Nat.zero_le _⟩
  | x :: r, h => by
    obtain ⟨p, a, b, c, e, f⟩ := (h x List.mem_cons_self).ex
    obtain ⟨ps, a2, b2, c2, e2, f2⟩ := sd_all r fun y hy => h y (List.mem_cons_of_mem _ hy)
    refine ⟨p :: ps, by unfold toPys; rw [a, a2], Bool.and_eq_true_iff.mpr ⟨b, b2⟩, Bool.and_eq_true_iff.mpr ⟨c, c2⟩, ?_, Nat.max_le.mpr ⟨f, f2⟩⟩
    show wt p + 2 + wts ps ≤ (n + 2) * (r.length + 1)
    rw [Nat.mul_succ]
    omega
theorem sd_lst {n k : Nat} {xs : List D} (h : ∀ x ∈ xs, Sd x n k) : Sd (.lst xs) ((n + 2) * xs.length + 10) (k + 1) := by
  obtain ⟨ps, a, b, c, e, f⟩ := sd_all xs h
  refine ⟨.list ps, by unfold toPy; rw [a]; rfl, b, c, ?_, Nat.succ_le_succ f⟩
  show wts ps + 10 ≤ _
  omega
mutual
def plain : D → Bool
  | .non => true
  | .bl _ => true
  | .int _ => true
  | .str _ => true
  | .lst xs => plains xs
  | .tup xs => plains xs
  | .fro _ => false
  | .edic => true
  | .dct _ => false
  | .opq _ => false
  | .exc _ _ _ => false
def plains : List D → Bool
  | [] => true
  | x :: r => plain x && plains r
end
theorem plains_iff : ∀ {xs : List D}, plains xs = true ↔ ∀ x ∈ xs, plain x = true
  | [] => ⟨fun _ _ h => (by cases h), fun _ => rfl⟩
  | x :: r => by
    show (plain x && plains r) = true ↔ _
    rw [Bool.and_eq_true_iff, plains_iff (xs := r)]
    exact ⟨fun h y hy => (List.mem_cons.mp hy).elim (fun e => e ▸ h.1) (h.2 y), fun h => ⟨h x List.mem_cons_self, fun y hy => h y (List.mem_cons_of_mem _ hy)⟩⟩
/-- plain data that repr shows -/
structure Gd (d : D) (n k : Nat) : Prop where
  pl : plain d = true
  sd : Sd d n k
theorem Gd.mono {d : D} {n k n' k' : Nat} (h : Gd d n k) (h1 : n ≤ n') (h2 : k ≤ k') : Gd d n' k' := ⟨h.pl, h.sd.mono h1 h2⟩
theorem gd_int {n : Nat} {i : Int} (h : Bd n i) (hn : n ≤ 1900 := by decide) : Gd (.int i) 2000 0 := ⟨rfl, (sm_int h hn).sd⟩
theorem gd_lst {n k : Nat} {xs : List D} (h : ∀ x ∈ xs, Gd x n k) : Gd (.lst xs) ((n + 2) * xs.length + 10) (k + 1) := ⟨plains_iff.mpr fun x hx => (h x hx).pl, sd_lst fun x hx => (h x hx).sd⟩
theorem all_nil {p : D → Prop} : ∀ x ∈ ([] : List D), p x := fun _ h => by cases h
theorem all_cons {p : D → Prop} {x : D} {r : List D} (h : p x) (t : ∀ y ∈ r, p y) : ∀ y ∈ x :: r, p y := fun y hy => by
  rcases List.mem_cons.mp hy with rfl | hy
  · exact h
  · exact t y hy
theorem ofString_ok (s : String) : (Str.ofString s).cps.all (· < 0x110000) = true := by
  rw [Array.all_eq_true']
  intro c hc
  rw [← Array.mem_toList_iff, PyProof.Rows.signs_ofString, List.mem_map] at hc
  obtain ⟨ch, _, rfl⟩ := hc
  have := ch.valid
  rcases this with h | ⟨_, h⟩
  · exact decide_eq_true (Nat.lt_trans h (by decide))
  · exact decide_eq_true h
theorem gd_str (x : Str) (h : x.cps.all (· < 0x110000) = true) : Gd (.str x) (10 * x.length + 10) 0 := ⟨rfl, (sm_str x h).sd⟩
theorem gd_lit (s : String) : Gd (.str s) (10 * (Str.ofString s).length + 10) 0 := gd_str _ (ofString_ok s)
theorem atI_0 {α : Type} (x : α) (r : List α) : atI (x :: r) 0 = some x := atI_nat (j := 0) rfl
theorem atI_1 {α : Type} (x y : α) (r : List α) : atI (x :: y :: r) 1 = some y := atI_nat (j := 1) rfl
theorem rng_mem {lo : Int} {n : Nat} {x : D} (h : x ∈ rng lo n) : ∃ i : Nat, i < n ∧ x = .int (lo + i) := by
  unfold rng at h
  obtain ⟨i, hi, rfl⟩ := List.mem_map.mp h
  exact ⟨i, List.mem_range.mp hi, rfl⟩
theorem rng_len {lo : Int} {n : Nat} : (rng lo n).length = n := by unfold rng; rw [List.length_map, List.length_range]
theorem ints_of {n : Nat} : ∀ ys : List D, (∀ y ∈ ys, ∃ i : Int, y = .int i ∧ Bd n i) → ∃ is : List Int, ys = is.map D.int ∧ (∀ i ∈ is, Bd n i) ∧ is.length = ys.length
  | [], _ => ⟨[], rfl, (fun _ h => by cases h), rfl⟩
  | y :: r, h => by
    obtain ⟨t, rfl, ht⟩ := h y List.mem_cons_self
    obtain ⟨ts, e, h2, h3⟩ := ints_of r fun z hz => h z (List.mem_cons_of_mem _ hz)
    refine ⟨t :: ts, by rw [e]; rfl, fun x hx => ?_, by rw [List.length_cons, List.length_cons, h3]⟩
    rcases List.mem_cons.mp hx with rfl | hx
    · exact ht
    · exact h2 x hx
theorem comp_pure {g : DG} {te : DE} {ds : DS} {ms : MS} (f : D → D) : ∀ (xs acc : List D) (P : List D → MS → Prop), acc.length + xs.length ≤ 1000000 → (∀ x ∈ xs, ∀ P0 : D → MS → Prop, P0 (f x) ms → g x ds fun ds2 => te ds2 ms P0) →
    P (acc ++ xs.map f) ms → compD g dYes te ds xs acc ms P
  | [], acc, P, _, _, h => by rw [List.map_nil, List.append_nil] at h; exact h
  | x :: r, acc, P, hl, t, h => by
    rw [List.length_cons] at hl
    unfold compD
    simp only [dYes, if_true]
    refine t x List.mem_cons_self _ ⟨Nat.lt_of_lt_of_le (by omega : acc.length < 1000001) (by decide), comp_pure f r _ P (by rw [List.length_append, List.length_singleton]; omega) (fun y hy => t y (List.mem_cons_of_mem _ hy)) ?_⟩
    rw [List.append_assoc]
    exact h
theorem comp_e {α : Type} {g : DG} {te : DE} {ds : DS} {ms : MS} (e : α → D) (f : α → D) : ∀ (xs : List α) (acc : List D) (P : List D → MS → Prop), acc.length + xs.length ≤ 1000000 →
    (∀ x ∈ xs, ∀ P0 : D → MS → Prop, P0 (f x) ms → g (e x) ds fun ds2 => te ds2 ms P0) → P (acc ++ xs.map f) ms → compD g dYes te ds (xs.map e) acc ms P
  | [], acc, P, _, _, h => by rw [List.map_nil, List.append_nil] at h; exact h
  | x :: r, acc, P, hl, t, h => by
    rw [List.length_cons] at hl
    rw [List.map_cons]
    unfold compD
    simp only [dYes, if_true]
    refine t x List.mem_cons_self _ ⟨Nat.lt_of_lt_of_le (by omega : acc.length < 1000001) (by decide), comp_e e f r _ P (by rw [List.length_append, List.length_singleton]; omega) (fun y hy => t y (List.mem_cons_of_mem _ hy)) ?_⟩
    rw [List.append_assoc]
    exact h
theorem bls_map {α : Type} (f : α → Bool) : ∀ xs : List α, blsOf (xs.map fun x => D.bl (f x)) = some (xs.map f)
  | [] => rfl
  | x :: r => by rw [List.map_cons, List.map_cons]; unfold blsOf; rw [bls_map f r]; rfl
local macro_rules | `(tactic| walk_at "d2") => `(tactic| simp only [dSeq, dWhile, dTest, dOp, dVar, dC, dPar, dRet, dRetN, dCB, dAsg, dIfS, dNext, dTup, dLst, dLstM, dCall, dNeg, dSetIx, dDrop, dAnd, dOr, dNot, dAndV, dOrV, dNotV, dIf, dFor, dLc, dSl, dIsi, dYes, dTru, truD, dAppend, dFrz,
  aNil, aCons, oNone, oSome, sName, sTup, sCons, sNil, iRange1, iRange2, iSeq, iTupD, iZipD, iEnumD, slot, setSlot, startD, List.length_nil, List.length_cons, Nat.reduceAdd, List.append_nil, List.cons_append, List.nil_append, pick, List.filterMap_cons, List.filterMap_nil, List.getElem?_cons_zero, List.getElem?_cons_succ,
  fI, fAdd, fSub, fMul, fDiv, fMod, fPow, fLt, fLe, fGt, fGe, fEq, fNe, cAbs, cMax2, cMin2, cInt1, cLen, cRepr, true_and, and_true, decide_eq_true_eq, if_true, dDoX, dRaise, dRaiseI, dExprZ, dRetZ, dAsgZ, dCallZ, dTry0, dTry, dIsE, dFld, dEdic, EN.lp, EN.wn, EN.wx, cTuple, cList, cStr, cAll, cAny, cSum, fSl, asL, fIx, atI_0, atI_1, fIn, fNotIn, fInB, wipeD, List.set, dChain])
local macro_rules | `(tactic| walk_at "s1") => `(tactic| (fail))
local macro_rules | `(tactic| walk_at "s1.ExG") => `(tactic| (fail))
local macro_rules | `(tactic| walk_at "s1.ArG") => `(tactic| (fail))
local macro_rules | `(tactic| walk_at "s1.OpG") => `(tactic| (fail))
local macro_rules | `(tactic| walk_at "s1.TgG") => `(tactic| (fail))
local macro_rules | `(tactic| walk_at "s1.StG") => `(tactic| (fail))
local macro_rules | `(tactic| walk_at "s1.TsG") => `(tactic| (fail))
local macro_rules | `(tactic| walk_at "s1.CbG") => `(tactic| (fail))
local macro_rules | `(tactic| walk_at "s1.ItG") => `(tactic| (fail))
local macro_rules | `(tactic| walk_at "s1.OgG") => `(tactic| (fail))
local macro_rules | `(tactic| walk_at "s1.TgsG") => `(tactic| (fail))
local macro_rules | `(tactic| walk_at "s1.SlG") => `(tactic| (fail))
local macro_rules | `(tactic| walk_at "s1") => `(tactic| (with_reducible refine n_mk ?_))
local macro_rules | `(tactic| walk_at "s1") => `(tactic| (with_reducible refine x_mk ?_))
local macro_rules | `(tactic| walk_at "s1") => `(tactic| (with_reducible refine t_mk ?_))
local macro_rules | `(tactic| walk_at "s1") => `(tactic| (with_reducible refine r_neg ?_))
local macro_rules | `(tactic| walk_at "s1") => `(tactic| (with_reducible refine r_chain ?_))
local macro_rules | `(tactic| walk_at "s1") => `(tactic| (with_reducible refine r_isi ?_))
local macro_rules | `(tactic| walk_at "s1") => `(tactic| (with_reducible refine r_sl ?_))
local macro_rules | `(tactic| walk_at "s1") => `(tactic| (with_reducible refine r_lc ?_))
local macro_rules | `(tactic| walk_at "s1") => `(tactic| (with_reducible refine r_or ?_))
local macro_rules | `(tactic| walk_at "s1") => `(tactic| (with_reducible refine r_and ?_))
local macro_rules | `(tactic| walk_at "s1") => `(tactic| (with_reducible refine r_not ?_))
local macro_rules | `(tactic| walk_at "s1") => `(tactic| (with_reducible refine r_if ?_))
local macro_rules | `(tactic| walk_at "s1") => `(tactic| (with_reducible refine r_notV ?_))
local macro_rules | `(tactic| walk_at "s1") => `(tactic| (with_reducible refine r_orV ?_))
local macro_rules | `(tactic| walk_at "s1") => `(tactic| (with_reducible refine r_andV ?_))
local macro_rules | `(tactic| walk_at "s1") => `(tactic| (with_reducible refine r_lst ?_))
local macro_rules | `(tactic| walk_at "s1") => `(tactic| (with_reducible refine r_tup ?_))
local macro_rules | `(tactic| walk_at "s1") => `(tactic| (with_reducible refine r_c ?_))
local macro_rules | `(tactic| walk_at "s1") => `(tactic| (with_reducible refine r_var ?_))
local macro_rules | `(tactic| walk_at "s1") => `(tactic| (with_reducible refine r_cb ?_))
local macro_rules | `(tactic| walk_at "s1") => `(tactic| (with_reducible refine r_exprZ ?_))
local macro_rules | `(tactic| walk_at "s1") => `(tactic| (with_reducible refine r_for ?_))
local macro_rules | `(tactic| walk_at "s1") => `(tactic| (with_reducible refine r_drop ?_))
local macro_rules | `(tactic| walk_at "s1") => `(tactic| (with_reducible refine r_asg ?_))
local macro_rules | `(tactic| walk_at "s1") => `(tactic| (with_reducible refine r_ifS ?_))
local macro_rules | `(tactic| walk_at "s1") => `(tactic| (with_reducible refine r_ret ?_))
local macro_rules | `(tactic| walk_at "s1") => `(tactic| (with_reducible refine r_stup ?_))
local macro_rules | `(tactic| walk_at "s1") => `(tactic| (with_reducible refine r_test ?_))
local macro_rules | `(tactic| walk_at "s1") => `(tactic| (with_reducible refine r_call ?_))
local macro_rules | `(tactic| walk_at "s1") => `(tactic| (with_reducible refine r_op ?_))
local macro_rules | `(tactic| walk_at "s1") => `(tactic| (with_reducible refine r_seq ?_))
local macro_rules | `(tactic| walk_at "s1") => `(tactic| (with_reducible refine r_name ?_))
local macro_rules | `(tactic| walk_at "s1") => `(tactic| (with_reducible refine r_rt ?_))
local macro_rules | `(tactic| walk_at "s1") => `(tactic| (with_reducible refine r_nx ?_))
local macro_rules | `(tactic| walk_at "s1") => `(tactic| ((with_reducible refine' w_mIsN ?wa ?wz); (case wa => rfl)))
local macro_rules | `(tactic| walk_at "s1") => `(tactic| ((with_reducible refine' w_mApp2 ?wa ?wv ?wz); (case wa => (first | assumption | exact look_new)); (case wv => (first | exact put_new | rfl))))
local macro_rules | `(tactic| walk_at "s1") => `(tactic| ((with_reducible refine' w_mApp ?wa ?wz); (case wa => (first | assumption | exact look_new))))
local macro_rules | `(tactic| walk_at "s1") => `(tactic| ((with_reducible refine' w_mFld (b := true) ?wa ?wv ?wz); (case wa => decide +kernel); (case wv => rfl)))
local macro_rules | `(tactic| walk_at "s1") => `(tactic| ((with_reducible refine w_mIsE (b := false) ?wa ?wz); (case wa => decide +kernel)))
local macro_rules | `(tactic| walk_at "s1") => `(tactic| ((with_reducible refine w_mIsE (b := true) ?wa ?wz); (case wa => decide +kernel)))
local macro_rules | `(tactic| walk_at "s1") => `(tactic| ((with_reducible refine w_mTryF ?wa ?wz); (case wa => decide +kernel)))
local macro_rules | `(tactic| walk_at "s1") => `(tactic| ((with_reducible refine' w_mTry ?wa ?wv ?wz); (case wa => decide +kernel); (case wv => (first | (simp only [setSlot, List.set]; done) | (simp only [setSlot, List.set]; rfl) | rfl))))
local macro_rules | `(tactic| walk_at "s1") => `(tactic| (with_reducible refine t_gone ?_))
local macro_rules | `(tactic| walk_at "s1") => `(tactic| ((with_reducible refine' n_gone ?wa ?wz); (case wa => (first | (simp only [setSlot, List.set]; done) | (simp only [setSlot, List.set]; rfl) | rfl))))
local macro_rules | `(tactic| walk_at "s1") => `(tactic| ((with_reducible refine w_mTryGF ?wa ?wz); (case wa => decide +kernel)))
local macro_rules | `(tactic| walk_at "s1") => `(tactic| ((with_reducible refine' w_mTryG ?wa ?wv ?wz); (case wa => decide +kernel); (case wv => (first | (simp only [setSlot, List.set]; done) | (simp only [setSlot, List.set]; rfl) | rfl))))
local macro_rules | `(tactic| walk_at "s1") => `(tactic| ((with_reducible refine w_mRng ?wa ?wz); (case wa => decide)))
local macro_rules | `(tactic| walk_at "s1") => `(tactic| ((with_reducible refine' w_mIsiF ?wa ?wc ?wz); (case wa => rfl); (case wc => rfl)))
local macro_rules | `(tactic| walk_at "s1") => `(tactic| ((with_reducible refine' w_mIsiT ?wa ?wc ?wz); (case wa => rfl); (case wc => rfl)))
local macro_rules | `(tactic| walk_at "s1") => `(tactic| (with_reducible refine w_mNot ?_))
local macro_rules | `(tactic| walk_at "s1") => `(tactic| ((with_reducible refine w_mNotF ?wa ?wz); (case wa => rfl)))
local macro_rules | `(tactic| walk_at "s1") => `(tactic| ((with_reducible refine w_mNotT ?wa ?wz); (case wa => rfl)))
local macro_rules | `(tactic| walk_at "s1") => `(tactic| ((with_reducible refine' w_mPar ?wa ?wz); (case wa => (first | (simp only [setSlot, startD]; done) | (simp only [setSlot, startD]; rfl) | rfl))))
local macro_rules | `(tactic| walk_at "s1") => `(tactic| (with_reducible refine w_mIsB ?_))
local macro_rules | `(tactic| walk_at "s1") => `(tactic| (with_reducible refine w_mChain ?_))
local macro_rules | `(tactic| walk_at "s1") => `(tactic| (with_reducible refine w_mEnum ?_))
local macro_rules | `(tactic| walk_at "s1") => `(tactic| (with_reducible refine w_mZip ?_))
local macro_rules | `(tactic| walk_at "s1") => `(tactic| (with_reducible refine w_mTupI ?_))
local macro_rules | `(tactic| walk_at "s1") => `(tactic| (with_reducible refine w_mSeqF ?_))
local macro_rules | `(tactic| walk_at "s1") => `(tactic| (with_reducible refine w_mSeq ?_))
local macro_rules | `(tactic| walk_at "s1") => `(tactic| (with_reducible refine w_mSome ?_))
local macro_rules | `(tactic| walk_at "s1") => `(tactic| (with_reducible refine w_mOr ?_))
local macro_rules | `(tactic| walk_at "s1") => `(tactic| (with_reducible refine w_mAnd ?_))
local macro_rules | `(tactic| walk_at "s1") => `(tactic| (with_reducible refine w_mNeg ?_))
local macro_rules | `(tactic| walk_at "s1") => `(tactic| (with_reducible refine c_wx ?_))
local macro_rules | `(tactic| walk_at "s1") => `(tactic| (with_reducible refine c_lp ?_))
local macro_rules | `(tactic| walk_at "s1") => `(tactic| (with_reducible refine c_wn ?_))
local macro_rules | `(tactic| walk_at "s1") => `(tactic| (with_reducible refine b_wx ?_))
local macro_rules | `(tactic| walk_at "s1") => `(tactic| (with_reducible refine b_lp ?_))
local macro_rules | `(tactic| walk_at "s1") => `(tactic| (with_reducible refine b_wn ?_))
local macro_rules | `(tactic| walk_at "s1.SlG") => `(tactic| (with_reducible refine w_sl_t ?_))
local macro_rules | `(tactic| walk_at "s1.SlG") => `(tactic| (with_reducible refine w_sl_s ?_))
local macro_rules | `(tactic| walk_at "s1.SlG") => `(tactic| (with_reducible refine w_sl_f ?_))
local macro_rules | `(tactic| walk_at "s1.SlG") => `(tactic| (with_reducible refine w_sl_l ?_))
local macro_rules | `(tactic| walk_at "s1") => `(tactic| ((with_reducible refine SlG.out ?_); (walk_at "s1.SlG")))
local macro_rules | `(tactic| walk_at "s1.OgG") => `(tactic| (with_reducible refine w_osome ?_))
local macro_rules | `(tactic| walk_at "s1.OgG") => `(tactic| (with_reducible refine w_onone ?_))
local macro_rules | `(tactic| walk_at "s1") => `(tactic| ((with_reducible refine OgG.out ?_); (walk_at "s1.OgG")))
local macro_rules | `(tactic| walk_at "s1.ItG") => `(tactic| (with_reducible refine w_itup ?_))
local macro_rules | `(tactic| walk_at "s1.ItG") => `(tactic| (with_reducible refine w_ienum ?_))
local macro_rules | `(tactic| walk_at "s1.ItG") => `(tactic| (with_reducible refine w_izip ?_))
local macro_rules | `(tactic| walk_at "s1.ItG") => `(tactic| (with_reducible refine w_iseq ?_))
local macro_rules | `(tactic| walk_at "s1") => `(tactic| ((with_reducible refine' w_mCallZ ?wa ?wv ?wc ?wz); (case wa => rfl); (case wv => rfl); (case wc => (first | (simp only [pick, List.append_nil, List.cons_append, List.nil_append, List.filterMap_cons, List.filterMap_nil, List.getElem?_cons_zero, List.getElem?_cons_succ]; done) | (simp only [pick, List.append_nil, List.cons_append, List.nil_append, List.filterMap_cons, List.filterMap_nil, List.getElem?_cons_zero, List.getElem?_cons_succ]; rfl) | rfl))))
local macro_rules | `(tactic| walk_at "s1") => `(tactic| ((with_reducible refine' w_mCallAZ ?wa ?wv ?wc ?wz); (case wa => rfl); (case wv => rfl); (case wc => (first | (simp only [pick, List.append_nil, List.cons_append, List.nil_append, List.filterMap_cons, List.filterMap_nil, List.getElem?_cons_zero, List.getElem?_cons_succ]; done) | (simp only [pick, List.append_nil, List.cons_append, List.nil_append, List.filterMap_cons, List.filterMap_nil, List.getElem?_cons_zero, List.getElem?_cons_succ]; rfl) | rfl))))
local macro_rules | `(tactic| walk_at "s1") => `(tactic| ((with_reducible refine' w_mCallA ?wa ?wv ?wc ?wz); (case wa => rfl); (case wv => rfl); (case wc => (first | (simp only [pick, List.append_nil, List.cons_append, List.nil_append, List.filterMap_cons, List.filterMap_nil, List.getElem?_cons_zero, List.getElem?_cons_succ]; done) | (simp only [pick, List.append_nil, List.cons_append, List.nil_append, List.filterMap_cons, List.filterMap_nil, List.getElem?_cons_zero, List.getElem?_cons_succ]; rfl) | rfl))))
local macro_rules | `(tactic| walk_at "s1") => `(tactic| ((with_reducible refine w_iteF ?wa ?wz); (case wa => rfl)))
local macro_rules | `(tactic| walk_at "s1") => `(tactic| ((with_reducible refine w_iteT ?wa ?wz); (case wa => rfl)))
local macro_rules | `(tactic| walk_at "s1") => `(tactic| ((with_reducible refine w_sizeL ?wa ?wz); (case wa => exact Nat.le_of_ble_eq_true rfl)))
local macro_rules | `(tactic| walk_at "s1.CbG") => `(tactic| (with_reducible refine w_str_i ?_))
local macro_rules | `(tactic| walk_at "s1.CbG") => `(tactic| (with_reducible refine w_str_l ?_))
local macro_rules | `(tactic| walk_at "s1.CbG") => `(tactic| (with_reducible refine w_str_s ?_))
local macro_rules | `(tactic| walk_at "s1.CbG") => `(tactic| (with_reducible refine w_tuple_t ?_))
local macro_rules | `(tactic| walk_at "s1.CbG") => `(tactic| (with_reducible refine w_tuple_l ?_))
local macro_rules | `(tactic| walk_at "s1.CbG") => `(tactic| (with_reducible refine w_list_t ?_))
local macro_rules | `(tactic| walk_at "s1.CbG") => `(tactic| (with_reducible refine w_list_f ?_))
local macro_rules | `(tactic| walk_at "s1.CbG") => `(tactic| (with_reducible refine w_list_l ?_))
local macro_rules | `(tactic| walk_at "s1.CbG") => `(tactic| (with_reducible refine w_abs ?_))
local macro_rules | `(tactic| walk_at "s1.CbG") => `(tactic| (with_reducible refine w_int_i ?_))
local macro_rules | `(tactic| walk_at "s1.CbG") => `(tactic| (with_reducible refine w_min2 ?_))
local macro_rules | `(tactic| walk_at "s1.CbG") => `(tactic| (with_reducible refine w_max2 ?_))
local macro_rules | `(tactic| walk_at "s1.CbG") => `(tactic| (with_reducible refine w_len_s ?_))
local macro_rules | `(tactic| walk_at "s1.CbG") => `(tactic| (with_reducible refine w_len_t ?_))
local macro_rules | `(tactic| walk_at "s1.CbG") => `(tactic| (with_reducible refine w_len_f ?_))
local macro_rules | `(tactic| walk_at "s1.CbG") => `(tactic| (with_reducible refine w_repr ?_))
local macro_rules | `(tactic| walk_at "s1.CbG") => `(tactic| (with_reducible refine w_len_l ?_))
local macro_rules | `(tactic| walk_at "s1.TsG") => `(tactic| (with_reducible refine w_tru ?_))
local macro_rules | `(tactic| walk_at "s1.TsG") => `(tactic| (with_reducible refine w_yes ?_))
local macro_rules | `(tactic| walk_at "s1.TsG") => `(tactic| (with_reducible refine w_and ?_))
local macro_rules | `(tactic| walk_at "s1.TsG") => `(tactic| (with_reducible refine w_or ?_))
local macro_rules | `(tactic| walk_at "s1.TsG") => `(tactic| (with_reducible refine w_not ?_))
local macro_rules | `(tactic| walk_at "s1.StG") => `(tactic| (with_reducible refine w_cont ?_))
local macro_rules | `(tactic| walk_at "s1.StG") => `(tactic| (with_reducible refine w_break ?_))
local macro_rules | `(tactic| walk_at "s1.StG") => `(tactic| (with_reducible refine w_retN ?_))
local macro_rules | `(tactic| walk_at "s1.StG") => `(tactic| (with_reducible refine w_raiseI ?_))
local macro_rules | `(tactic| walk_at "s1.StG") => `(tactic| (with_reducible refine w_raise ?_))
local macro_rules | `(tactic| walk_at "s1.StG") => `(tactic| (with_reducible refine w_try ?_))
local macro_rules | `(tactic| walk_at "s1.StG") => `(tactic| (with_reducible refine w_tryG ?_))
local macro_rules | `(tactic| walk_at "s1.StG") => `(tactic| (with_reducible refine w_tryG0 ?_))
local macro_rules | `(tactic| walk_at "s1.StG") => `(tactic| (with_reducible refine w_try0 ?_))
local macro_rules | `(tactic| walk_at "s1.StG") => `(tactic| (with_reducible refine w_asgZ ?_))
local macro_rules | `(tactic| walk_at "s1.StG") => `(tactic| (with_reducible refine w_retZ ?_))
local macro_rules | `(tactic| walk_at "s1.StG") => `(tactic| (with_reducible refine w_exprZ ?_))
local macro_rules | `(tactic| walk_at "s1.StG") => `(tactic| (with_reducible refine w_par ?_))
local macro_rules | `(tactic| walk_at "s1.StG") => `(tactic| (with_reducible refine w_next ?_))
local macro_rules | `(tactic| walk_at "s1") => `(tactic| (with_reducible refine t_wx ?_))
local macro_rules | `(tactic| walk_at "s1") => `(tactic| (with_reducible refine x_wx ?_))
local macro_rules | `(tactic| walk_at "s1") => `(tactic| (with_reducible refine x_lp ?_))
local macro_rules | `(tactic| walk_at "s1") => `(tactic| (with_reducible refine x_wn ?_))
local macro_rules | `(tactic| walk_at "s1") => `(tactic| (with_reducible refine n_wx ?_))
local macro_rules | `(tactic| walk_at "s1") => `(tactic| (with_reducible refine t_lp ?_))
local macro_rules | `(tactic| walk_at "s1") => `(tactic| (with_reducible refine t_wn ?_))
local macro_rules | `(tactic| walk_at "s1.TgG") => `(tactic| ((with_reducible refine w_stup ?wa ?wz); (case wa => rfl)))
local macro_rules | `(tactic| walk_at "s1.OpG") => `(tactic| (with_reducible refine w_notIs ?_))
local macro_rules | `(tactic| walk_at "s1.OpG") => `(tactic| (with_reducible refine w_is ?_))
local macro_rules | `(tactic| walk_at "s1.OpG") => `(tactic| ((with_reducible refine' w_add_ol ?wa ?wz); (case wa => (first | assumption | exact look_new))))
local macro_rules | `(tactic| walk_at "s1.OpG") => `(tactic| (with_reducible refine w_notIn_t ?_))
local macro_rules | `(tactic| walk_at "s1.OpG") => `(tactic| (with_reducible refine w_notIn_l ?_))
local macro_rules | `(tactic| walk_at "s1.OpG") => `(tactic| (with_reducible refine w_in_t ?_))
local macro_rules | `(tactic| walk_at "s1.OpG") => `(tactic| (with_reducible refine w_in_l ?_))
local macro_rules | `(tactic| walk_at "s1.OpG") => `(tactic| (with_reducible refine w_ne_tt ?_))
local macro_rules | `(tactic| walk_at "s1.OpG") => `(tactic| (with_reducible refine w_ne_lc ?_))
local macro_rules | `(tactic| walk_at "s1.OpG") => `(tactic| (with_reducible refine w_eq_tt ?_))
local macro_rules | `(tactic| walk_at "s1.OpG") => `(tactic| (with_reducible refine w_eq_lc ?_))
local macro_rules | `(tactic| walk_at "s1.OpG") => `(tactic| (with_reducible refine w_mul_l ?_))
local macro_rules | `(tactic| walk_at "s1.OpG") => `(tactic| (with_reducible refine w_add_ss ?_))
local macro_rules | `(tactic| walk_at "s1.OpG") => `(tactic| (with_reducible refine w_ne_bb ?_))
local macro_rules | `(tactic| walk_at "s1.OpG") => `(tactic| (with_reducible refine w_eq_bb ?_))
local macro_rules | `(tactic| walk_at "s1.OpG") => `(tactic| (with_reducible refine w_ne_l0 ?_))
local macro_rules | `(tactic| walk_at "s1.OpG") => `(tactic| (with_reducible refine w_eq_l0 ?_))
local macro_rules | `(tactic| walk_at "s1.OpG") => `(tactic| (with_reducible refine w_add_ll ?_))
local macro_rules | `(tactic| walk_at "s1.OpG") => `(tactic| ((with_reducible refine' w_pow ?wa ?wc ?wz); (case wa => decide); (case wc => (first | exact t9 | exact t6 | exact t18 | exact t39 | exact t58 | exact t30))))
local macro_rules | `(tactic| walk_at "s1.OpG") => `(tactic| (with_reducible refine w_mod ?_))
local macro_rules | `(tactic| walk_at "s1.OpG") => `(tactic| (with_reducible refine w_div ?_))
local macro_rules | `(tactic| walk_at "s1.OpG") => `(tactic| (with_reducible refine w_ne_ss ?_))
local macro_rules | `(tactic| walk_at "s1.OpG") => `(tactic| (with_reducible refine w_eq_ss ?_))
local macro_rules | `(tactic| walk_at "s1.OpG") => `(tactic| (with_reducible refine w_ge ?_))
local macro_rules | `(tactic| walk_at "s1.OpG") => `(tactic| (with_reducible refine w_le ?_))
local macro_rules | `(tactic| walk_at "s1.OpG") => `(tactic| (with_reducible refine w_gt ?_))
local macro_rules | `(tactic| walk_at "s1.OpG") => `(tactic| (with_reducible refine w_lt ?_))
local macro_rules | `(tactic| walk_at "s1.OpG") => `(tactic| (with_reducible refine w_ne_ii ?_))
local macro_rules | `(tactic| walk_at "s1.OpG") => `(tactic| (with_reducible refine w_eq_ii ?_))
local macro_rules | `(tactic| walk_at "s1.OpG") => `(tactic| ((with_reducible refine' w_ix_l ?wa ?wz); (case wa => (first | exact w_at0 _ _ | exact w_at1 _ _ _ | exact w_at2 _ _ _ _ | exact w_at3 _ _ _ _ _))))
local macro_rules | `(tactic| walk_at "s1.OpG") => `(tactic| ((with_reducible refine' w_ix_t ?wa ?wz); (case wa => (first | exact w_at0 _ _ | exact w_at1 _ _ _ | exact w_at2 _ _ _ _ | exact w_at3 _ _ _ _ _))))
local macro_rules | `(tactic| walk_at "s1.ExG") => `(tactic| (with_reducible refine w_edic ?_))
local macro_rules | `(tactic| walk_at "s1.ExG") => `(tactic| (with_reducible refine w_neg ?_))
local macro_rules | `(tactic| walk_at "s1.ExG") => `(tactic| (with_reducible refine w_chain ?_))
local macro_rules | `(tactic| walk_at "s1.ExG") => `(tactic| (with_reducible refine w_fld ?_))
local macro_rules | `(tactic| walk_at "s1.ExG") => `(tactic| (with_reducible refine w_isE ?_))
local macro_rules | `(tactic| walk_at "s1.ExG") => `(tactic| (with_reducible refine w_callAZ ?_))
local macro_rules | `(tactic| walk_at "s1.ExG") => `(tactic| (with_reducible refine w_callA ?_))
local macro_rules | `(tactic| walk_at "s1.ExG") => `(tactic| (with_reducible refine w_callZ ?_))
local macro_rules | `(tactic| walk_at "s1.ExG") => `(tactic| (with_reducible refine w_sl ?_))
local macro_rules | `(tactic| walk_at "s1.ExG") => `(tactic| (with_reducible refine w_isi ?_))
local macro_rules | `(tactic| walk_at "s1.ExG") => `(tactic| (with_reducible refine w_if ?_))
local macro_rules | `(tactic| walk_at "s1.ExG") => `(tactic| (with_reducible refine w_notV ?_))
local macro_rules | `(tactic| walk_at "s1.ExG") => `(tactic| (with_reducible refine w_orV ?_))
local macro_rules | `(tactic| walk_at "s1.ExG") => `(tactic| (with_reducible refine w_andV ?_))
local macro_rules | `(tactic| walk_at "s1.OpG") => `(tactic| (with_reducible refine w_add_tt ?_))
local macro_rules | `(tactic| walk_at "s1") => `(tactic| (with_reducible refine t_gone ?_))
local macro_rules | `(tactic| walk_at "s1") => `(tactic| ((with_reducible refine' c_gone ?wa ?wz); (case wa => (first | (simp only [setSlot, List.set]; done) | (simp only [setSlot, List.set]; rfl) | rfl))))
local macro_rules | `(tactic| walk_at "s1") => `(tactic| ((with_reducible refine' b_gone ?wa ?wz); (case wa => (first | (simp only [setSlot, List.set]; done) | (simp only [setSlot, List.set]; rfl) | rfl))))
local macro_rules | `(tactic| walk_at "s1") => `(tactic| ((with_reducible refine' n_gone ?wa ?wz); (case wa => (first | (simp only [setSlot, List.set]; done) | (simp only [setSlot, List.set]; rfl) | rfl))))
local macro_rules | `(tactic| walk_at "s1.CbG") => `(tactic| (with_reducible refine w_listM_l ?_))
local macro_rules | `(tactic| walk_at "s1.CbG") => `(tactic| (with_reducible refine w_listM_t ?_))
local macro_rules | `(tactic| walk_at "s1.OpG") => `(tactic| (with_reducible refine w_addM ?_))
local macro_rules | `(tactic| walk_at "s1.StG") => `(tactic| ((with_reducible refine' w_frzS ?wa ?wb ?wc ?wd ?wz); (case wa => rfl); (case wb => (first | assumption | exact look_new)); (case wc => (first | (simp only [setSlot, startD]; done) | (simp only [setSlot, startD]; rfl) | rfl)); (case wd => (first | exact drp_new | rfl))))
local macro_rules | `(tactic| walk_at "s1.ExG") => `(tactic| ((with_reducible refine' w_loan ?wa ?wb ?wc ?wd ?wz); (case wa => rfl); (case wb => (first | assumption | exact look_new)); (case wc => (first | (simp only [setSlot, startD]; done) | (simp only [setSlot, startD]; rfl) | rfl)); (case wd => (first | exact drp_new | rfl))))
local macro_rules | `(tactic| walk_at "s1.ExG") => `(tactic| (with_reducible refine w_lcM ?_))
local macro_rules | `(tactic| walk_at "s1") => `(tactic| (with_reducible refine w_mCnt ?_))
local macro_rules | `(tactic| walk_at "s1") => `(tactic| ((with_reducible refine w_lenq ?wa ?wz); (case wa => rfl)))
local macro_rules | `(tactic| walk_at "s1.ExG") => `(tactic| (with_reducible refine w_count ?_))
local macro_rules | `(tactic| walk_at "s1.ExG") => `(tactic| (with_reducible refine w_mkI ?_))
local macro_rules | `(tactic| walk_at "s1.ExG") => `(tactic| (with_reducible refine w_mk0 ?_))
local macro_rules | `(tactic| walk_at "s1.CbG") => `(tactic| (with_reducible refine w_divmod ?_))
local macro_rules | `(tactic| walk_at "s1.OpG") => `(tactic| (with_reducible refine w_notInSign ?_))
local macro_rules | `(tactic| walk_at "s1.OpG") => `(tactic| (with_reducible refine w_inSign ?_))
local macro_rules | `(tactic| walk_at "s1") => `(tactic| (with_reducible refine w_mMaxD ?_))
local macro_rules | `(tactic| walk_at "s1") => `(tactic| (with_reducible refine w_mJs ?_))
local macro_rules | `(tactic| walk_at "s1") => `(tactic| (with_reducible refine w_jsC ?_))
local macro_rules | `(tactic| walk_at "s1") => `(tactic| (with_reducible refine w_jsN ?_))
local macro_rules | `(tactic| walk_at "s1") => `(tactic| (with_reducible refine w_mFmtI ?_))
local macro_rules | `(tactic| walk_at "s1") => `(tactic| (with_reducible refine w_mFmtS ?_))
local macro_rules | `(tactic| walk_at "s1") => `(tactic| (with_reducible refine w_mJr ?_))
local macro_rules | `(tactic| walk_at "s1") => `(tactic| (with_reducible refine w_remSuf ?_))
local macro_rules | `(tactic| walk_at "s1") => `(tactic| (with_reducible refine w_zfill ?_))
local macro_rules | `(tactic| walk_at "s1") => `(tactic| (with_reducible refine w_split ?_))
local macro_rules | `(tactic| walk_at "s1") => `(tactic| (with_reducible refine w_ends ?_))
local macro_rules | `(tactic| walk_at "s1") => `(tactic| (with_reducible refine w_starts ?_))
local macro_rules | `(tactic| walk_at "s1") => `(tactic| (with_reducible refine w_part ?_))
local macro_rules | `(tactic| walk_at "s1") => `(tactic| (with_reducible refine w_mM1 ?_))
local macro_rules | `(tactic| walk_at "s1.ExG") => `(tactic| (with_reducible refine w_maxDef ?_))
local macro_rules | `(tactic| walk_at "s1.ExG") => `(tactic| (with_reducible refine w_joined ?_))
local macro_rules | `(tactic| walk_at "s1.ExG") => `(tactic| (with_reducible refine w_fmt ?_))
local macro_rules | `(tactic| walk_at "s1.ExG") => `(tactic| (with_reducible refine w_joinRev ?_))
local macro_rules | `(tactic| walk_at "s1.ExG") => `(tactic| (with_reducible refine w_m1 ?_))
local macro_rules | `(tactic| walk_at "s1.OpG") => `(tactic| ((with_reducible refine' w_pow ?wa ?wc ?wz); (case wa => decide); (case wc => (first | exact t56 | exact t60 | exact t40 | exact t50 | exact t59))))
local macro_rules | `(tactic| walk_at "s1") => `(tactic| (with_reducible refine r_append ?_))
local macro_rules | `(tactic| walk_at "s1") => `(tactic| (with_reducible refine r_frz ?_))
local macro_rules | `(tactic| walk_at "s1") => `(tactic| (with_reducible refine r_joined ?_))
local macro_rules | `(tactic| walk_at "s1") => `(tactic| (with_reducible refine r_m1 ?_))
local macro_rules | `(tactic| walk_at "s1") => `(tactic| (with_reducible refine r_lcM ?_))
local macro_rules | `(tactic| walk_at "s1") => `(tactic| (with_reducible refine r_setIx ?_))
local macro_rules | `(tactic| walk_at "s1") => `(tactic| (with_reducible refine r_frzS ?_))
local macro_rules | `(tactic| walk_at "s1") => `(tactic| (with_reducible refine w_mStrI ?_))
local macro_rules | `(tactic| walk_at "s1.ItG") => `(tactic| (with_reducible refine w_irng3 ?_))
local macro_rules | `(tactic| walk_at "s1.ItG") => `(tactic| (with_reducible refine w_istr ?_))
local macro_rules | `(tactic| walk_at "s1") => `(tactic| (with_reducible refine w_truI ?_))
local macro_rules | `(tactic| walk_at "s1") => `(tactic| (with_reducible refine w_truL ?_))
local macro_rules | `(tactic| walk_at "s1") => `(tactic| (with_reducible refine w_truB ?_))
local macro_rules | `(tactic| walk_at "s1.TgG") => `(tactic| ((with_reducible refine w_slst ?wa ?wz); (case wa => rfl)))
local macro_rules | `(tactic| walk_at "s1") => `(tactic| (with_reducible refine w_mTest ?_))
local macro_rules | `(tactic| walk_at "s1.TsG") => `(tactic| (with_reducible refine w_test ?_))
local macro_rules | `(tactic| walk_at "s1.StG") => `(tactic| (with_reducible refine w_ifS ?_))
local macro_rules | `(tactic| walk_at "s1.CbG") => `(tactic| (with_reducible refine w_int_b ?_))
local macro_rules | `(tactic| walk_at "s1.ExG") => `(tactic| (with_reducible refine w_lc (fun _ => rfl) ?_))
local macro_rules | `(tactic| walk_at "s1") => `(tactic| ((with_reducible refine TgsG.out ?_); (walk_at "s1.TgsG")))
local macro_rules | `(tactic| walk_at "s1") => `(tactic| ((with_reducible refine ItG.out ?_); (walk_at "s1.ItG")))
local macro_rules | `(tactic| walk_at "s1") => `(tactic| ((with_reducible refine TsG.out ?_); (walk_at "s1.TsG")))
local macro_rules | `(tactic| walk_at "s1") => `(tactic| ((with_reducible refine CbG.out ?_); (walk_at "s1.CbG")))
local macro_rules | `(tactic| walk_at "s1") => `(tactic| (with_reducible refine n_lp ?_))
local macro_rules | `(tactic| walk_at "s1.ExG") => `(tactic| (with_reducible refine w_cb ?_))
local macro_rules | `(tactic| walk_at "s1.StG") => `(tactic| (with_reducible refine w_for ?_))
local macro_rules | `(tactic| walk_at "s1.ExG") => `(tactic| (with_reducible refine w_lstM ?_))
local macro_rules | `(tactic| walk_at "s1") => `(tactic| ((with_reducible refine' w_mFrz ?wa ?wv ?wz); (case wa => (first | assumption | exact look_new)); (case wv => (first | exact drp_new | rfl))))
local macro_rules | `(tactic| walk_at "s1.StG") => `(tactic| (with_reducible refine w_ret ?_))
local macro_rules | `(tactic| walk_at "s1.StG") => `(tactic| (with_reducible refine w_setIx ?_))
local macro_rules | `(tactic| walk_at "s1.TgsG") => `(tactic| (with_reducible refine w_snil ?_))
local macro_rules | `(tactic| walk_at "s1.ExG") => `(tactic| (with_reducible refine w_frz ?_))
local macro_rules | `(tactic| walk_at "s1.ExG") => `(tactic| (with_reducible refine w_append ?_))
local macro_rules | `(tactic| walk_at "s1.StG") => `(tactic| (with_reducible refine w_drop ?_))
local macro_rules | `(tactic| walk_at "s1.ItG") => `(tactic| (with_reducible refine w_irng1 ?_))
local macro_rules | `(tactic| walk_at "s1.OpG") => `(tactic| (with_reducible refine w_mul ?_))
local macro_rules | `(tactic| walk_at "s1.ExG") => `(tactic| (with_reducible refine w_tup ?_))
local macro_rules | `(tactic| walk_at "s1.ExG") => `(tactic| (with_reducible refine w_lst ?_))
local macro_rules | `(tactic| walk_at "s1.OpG") => `(tactic| (with_reducible refine w_sub ?_))
local macro_rules | `(tactic| walk_at "s1.OpG") => `(tactic| (with_reducible refine w_add_ii ?_))
local macro_rules | `(tactic| walk_at "s1.TgsG") => `(tactic| (with_reducible refine w_scons ?_))
local macro_rules | `(tactic| walk_at "s1.ExG") => `(tactic| (with_reducible refine w_call ?_))
local macro_rules | `(tactic| walk_at "s1") => `(tactic| ((with_reducible refine' w_mCall ?wa ?wv ?wc ?wz); (case wa => rfl); (case wv => rfl); (case wc => (first | (simp only [pick, List.append_nil, List.cons_append, List.nil_append, List.filterMap_cons, List.filterMap_nil, List.getElem?_cons_zero, List.getElem?_cons_succ]; done) | (simp only [pick, List.append_nil, List.cons_append, List.nil_append, List.filterMap_cons, List.filterMap_nil, List.getElem?_cons_zero, List.getElem?_cons_succ]; rfl) | rfl))))
local macro_rules | `(tactic| walk_at "s1") => `(tactic| ((with_reducible refine w_size ?wa ?wz); (case wa => exact Nat.le_of_ble_eq_true rfl)))
local macro_rules | `(tactic| walk_at "s1.StG") => `(tactic| (with_reducible refine w_asg ?_))
local macro_rules | `(tactic| walk_at "s1") => `(tactic| (with_reducible refine n_wn ?_))
local macro_rules | `(tactic| walk_at "s1.StG") => `(tactic| (with_reducible refine w_seq ?_))
local macro_rules | `(tactic| walk_at "s1.TgG") => `(tactic| ((with_reducible refine' w_name ?wa ?wz); (case wa => (first | (simp only [setSlot, startD]; done) | (simp only [setSlot, startD]; rfl) | rfl))))
local macro_rules | `(tactic| walk_at "s1.ExG") => `(tactic| (with_reducible refine w_op ?_))
local macro_rules | `(tactic| walk_at "s1.ExG") => `(tactic| (with_reducible refine w_c ?_))
local macro_rules | `(tactic| walk_at "s1.ArG") => `(tactic| (with_reducible refine w_anil ?_))
local macro_rules | `(tactic| walk_at "s1.ArG") => `(tactic| (with_reducible refine w_acons ?_))
local macro_rules | `(tactic| walk_at "s1.ExG") => `(tactic| ((with_reducible refine' w_var ?wa ?wz); (case wa => rfl)))
local macro_rules | `(tactic| walk_at "s1") => `(tactic| ((with_reducible refine StG.out ?_); (walk_at "s1.StG")))
local macro_rules | `(tactic| walk_at "s1") => `(tactic| ((with_reducible refine TgG.out ?_); (walk_at "s1.TgG")))
local macro_rules | `(tactic| walk_at "s1") => `(tactic| ((with_reducible refine OpG.out ?_); (walk_at "s1.OpG")))
local macro_rules | `(tactic| walk_at "s1") => `(tactic| ((with_reducible refine ArG.out ?_); (walk_at "s1.ArG")))
local macro_rules | `(tactic| walk_at "s1") => `(tactic| ((with_reducible refine ExG.out ?_); (walk_at "s1.ExG")))
local macro_rules | `(tactic| walk_at "st") => `(tactic| repeat (walk_at "s1"))
theorem loop_inv {g : DG} {tb : DTS} {E : EN} (I : DS → MS → Prop) : ∀ (xs : List D) (ds : DS) (ms : MS), I ds ms →
    (∀ x ∈ xs, ∀ ds ms, I ds ms → ∀ N : DS → MS → Prop, (∀ ds' ms', I ds' ms' → N ds' ms') → g x ds fun ds1 => tb (EN.lp E N) ds1 ms) →
    (∀ ds ms, I ds ms → E.nx ds ms) → loopD g tb E xs ds ms
  | [], ds, ms, h, _, q => q ds ms h
  | x :: r, ds, ms, h, t, q => t x List.mem_cons_self ds ms h _ fun ds' ms' h' => loop_inv I r ds' ms' h' (fun y hy => t y (List.mem_cons_of_mem _ hy)) q
theorem cut_to {α : Type} (xs : List α) (n : Nat) (h : n ≤ xs.length) : cutL xs none (some (n : Int)) = xs.take n := by
  unfold cutL
  rw [show HT.sIx xs.length xs.length (some (n : Int)) = min n xs.length from HT.sIx_nat _ _ n, HT.sIx_none, Nat.min_eq_left h]
  rfl
/-- a fraction so large -/
structure FB (n m : Nat) (t : Int × Int) : Prop where
  top : Bd n t.1
  bot : Bd m t.2
  pos : 0 < t.2
  nil : t.1 = 0 → t.2 = 1
theorem FB.mono {n m n' m' : Nat} {t : Int × Int} (h : FB n m t) (h1 : n ≤ n') (h2 : m ≤ m') : FB n' m' t := ⟨h.top.mono h1, h.bot.mono h2, h.pos, h.nil⟩
theorem FB.ne {n m : Nat} {t : Int × Int} (h : FB n m t) : t.2 ≠ 0 := by have := h.pos; omega
structure Low (p : Int × Int) : Prop where
  pos : 0 < p.2
  cop : Int.gcd p.1 p.2 = 1
theorem Low.ne {p : Int × Int} (h : Low p) : p.2 ≠ 0 := by have := h.pos; omega
inductive Any (c : Bool) (n L : Nat) : Nat → D → Prop
  | non {k : Nat} : Any c n L k .non
  | bl {k : Nat} (b : Bool) : Any c n L k (.bl b)
  | int {k : Nat} {i : Int} : Bd n i → Any c n L k (.int i)
  | str {k : Nat} {x : Str} : x.length ≤ L → x.cps.all (· < 0x110000) = true → Any c n L k (.str x)
  | edic {k : Nat} : c = true → Any c n L k .edic
  | lst {k : Nat} {xs : List D} : xs.length ≤ L → (∀ x ∈ xs, Any c n L k x) → Any c n L (k + 1) (.lst xs)
  | tup {k : Nat} {xs : List D} : xs.length ≤ L → (∀ x ∈ xs, Any c n L k x) → Any c n L (k + 1) (.tup xs)
theorem Any.mono {c c' : Bool} {n n' L L' k : Nat} {d : D} (h : Any c n L k d) (hc : c = true → c' = true) (hn : n ≤ n') (hL : L ≤ L') : ∀ {k' : Nat}, k ≤ k' → Any c' n' L' k' d := by
  induction h with
  | non => intro k' _; exact .non
  | bl b => intro k' _; exact .bl b
  | int h => intro k' _; exact .int (h.mono hn)
  | str h1 h2 => intro k' _; exact .str (by omega) h2
  | edic h => intro k' _; exact .edic (hc h)
  | lst h1 h2 ih =>
    intro k' hk
    obtain ⟨j, rfl⟩ : ∃ j, k' = j + 1 := ⟨k' - 1, by omega⟩
    exact .lst (by omega) fun x hx => ih x hx (by omega)
  | tup h1 h2 ih =>
    intro k' hk
    obtain ⟨j, rfl⟩ : ∃ j, k' = j + 1 := ⟨k' - 1, by omega⟩
    exact .tup (by omega) fun x hx => ih x hx (by omega)
theorem Any.up {c : Bool} {n L k k' : Nat} {d : D} (h : Any c n L k d) (hk : k ≤ k') : Any c n L k' d := h.mono id (Nat.le_refl _) (Nat.le_refl _) hk
theorem Any.ty {c : Bool} {n L k : Nat} {d : D} (h : Any c n L k d) : ∃ a, tyD d = some a := by cases h <;> exact ⟨_, rfl⟩
theorem any_pys {c : Bool} {n L k : Nat} : ∀ xs : List D, (∀ x ∈ xs, c = false → ∃ p, toPy x = some p ∧ p.canLay0 = true ∧ p.depth ≤ k) → c = false → ∃ ps, toPys xs = some ps ∧ PyData.canLayAll0 ps = true ∧ PyData.depthAll ps ≤ k
  | [], _, _ => ⟨[], rfl, rfl, Nat.zero_le _⟩
  | x :: r, h, hc => by
    obtain ⟨p, a, b, e⟩ := h x List.mem_cons_self hc
    obtain ⟨ps, a2, b2, e2⟩ := any_pys (n := n) (L := L) r (fun y hy => h y (List.mem_cons_of_mem _ hy)) hc
    exact ⟨p :: ps, by unfold toPys; rw [a, a2], Bool.and_eq_true_iff.mpr ⟨b, b2⟩, Nat.max_le.mpr ⟨e, e2⟩⟩
theorem Any.py {c : Bool} {n L k : Nat} {d : D} (h : Any c n L k d) : c = false → ∃ p, toPy d = some p ∧ p.canLay0 = true ∧ p.depth ≤ k := by
  induction h with
  | non => exact fun _ => ⟨_, rfl, rfl, Nat.zero_le _⟩
  | bl b => exact fun _ => ⟨_, rfl, rfl, Nat.zero_le _⟩
  | int h => exact fun _ => ⟨_, rfl, rfl, Nat.zero_le _⟩
  | str h1 h2 => exact fun _ => ⟨_, rfl, h2, Nat.zero_le _⟩
  | edic h => exact fun hc => by rw [hc] at h; cases h
  | lst h1 h2 ih =>
    intro hc
    obtain ⟨ps, a, b, e⟩ := any_pys (n := n) (L := L) _ ih hc
    exact ⟨.list ps, by unfold toPy; rw [a]; rfl, b, Nat.succ_le_succ e⟩
  | tup h1 h2 ih =>
    intro hc
    obtain ⟨ps, a, b, e⟩ := any_pys (n := n) (L := L) _ ih hc
    exact ⟨.tuple ps, by unfold toPy; rw [a]; rfl, b, Nat.succ_le_succ e⟩
theorem Any.sh {n L k : Nat} {d : D} (h : Any false n L k d) (hk : k ≤ 60) : ShD d := by
  obtain ⟨p, a, b, e⟩ := h.py rfl
  refine ⟨p, a, ?_⟩
  unfold SeqAt.shaped
  rw [b, decide_eq_true (by omega : p.depth ≤ 64)]; rfl
/-- any data: ints below 2 ^ n -/
structure AnyX (n : Nat) (d : D) : Prop where
  ex : ∃ k, Any true n 1000 k d
theorem AnyX.ty {n : Nat} {d : D} (h : AnyX n d) : ∃ a, tyD d = some a := h.ex.elim fun _ h => h.ty
theorem AnyX.mono {n n' : Nat} {d : D} (h : AnyX n d) (hn : n ≤ n') : AnyX n' d := h.ex.elim fun k h => ⟨k, h.mono id hn (Nat.le_refl _) (Nat.le_refl _)⟩
theorem AnyX.lst {n : Nat} {xs : List D} (h : AnyX n (.lst xs)) : xs.length ≤ 1000 ∧ ∀ x ∈ xs, AnyX n x := h.ex.elim fun k h => by
  cases h with
  | lst h1 h2 => exact ⟨h1, fun x hx => ⟨_, h2 x hx⟩⟩
theorem AnyX.tup {n : Nat} {xs : List D} (h : AnyX n (.tup xs)) : xs.length ≤ 1000 ∧ ∀ x ∈ xs, AnyX n x := h.ex.elim fun k h => by
  cases h with
  | tup h1 h2 => exact ⟨h1, fun x hx => ⟨_, h2 x hx⟩⟩
theorem AnyX.int {n : Nat} {i : Int} (h : AnyX n (.int i)) : Bd n i := h.ex.elim fun k h => by
  cases h with
  | int h => exact h
theorem AnyX.int' {n : Nat} {i : Int} (h : Bd n i) : AnyX n (.int i) := ⟨0, .int h⟩
theorem anyx_all {n : Nat} : ∀ xs : List D, (∀ x ∈ xs, AnyX n x) → ∃ k, ∀ x ∈ xs, Any true n 1000 k x
  | [], _ => ⟨0, fun x h => by cases h⟩
  | x :: r, h => by
    obtain ⟨k1, h1⟩ := (h x List.mem_cons_self).ex
    obtain ⟨k2, h2⟩ := anyx_all r fun y hy => h y (List.mem_cons_of_mem _ hy)
    refine ⟨max k1 k2, fun z hz => ?_⟩
    rcases List.mem_cons.mp hz with rfl | hz
    · exact h1.up (Nat.le_max_left ..)
    · exact (h2 z hz).up (Nat.le_max_right ..)
theorem AnyX.mkL {n : Nat} {xs : List D} (hl : xs.length ≤ 1000) (h : ∀ x ∈ xs, AnyX n x) : AnyX n (.lst xs) := (anyx_all xs h).elim fun k h => ⟨k + 1, .lst hl h⟩
/-- row numbers -/
def natL (is : List Nat) : List D := is.map fun (k : Nat) => D.int (k : Int)
theorem natL_inj : ∀ {is js : List Nat}, natL is = natL js → is = js
  | [], [], _ => rfl
  | [], _ :: _, h => by cases h
  | _ :: _, [], h => by cases h
  | s :: ss, t :: ts, h => by
    have h : D.int (s : Int) :: natL ss = D.int (t : Int) :: natL ts := h
    injection h with h1 h2
    injection h1 with h1
    rw [natL_inj h2, Int.ofNat_inj.mp h1]
theorem zipD_mp {α β : Type} (f : α → D) (g : β → D) : ∀ (as : List α) (bs : List β), zipD (as.map f) (bs.map g) = (as.zip bs).map fun p => .tup [f p.1, g p.2]
  | [], _ => rfl
  | _ :: _, [] => rfl
  | a :: as, b :: bs => by
    rw [List.map_cons, List.map_cons, List.zip_cons_cons, List.map_cons, ← zipD_mp f g as bs]
    rfl
theorem zipD_m1 {α : Type} (f : α → D) (as : List α) (bs : List D) : zipD (as.map f) bs = (as.zip bs).map fun p => .tup [f p.1, p.2] := by
  have := zipD_mp f (fun x : D => x) as bs
  rw [List.map_id'] at this
  exact this
theorem all_id {α : Type} (f : α → Bool) (xs : List α) : (xs.map f).all id = xs.all f := by rw [List.all_map]; rfl
local macro_rules | `(tactic| walk_at "s1") => `(tactic| (with_reducible refine w_mRevL ?_))
local macro_rules | `(tactic| walk_at "s1.ExG") => `(tactic| (with_reducible refine w_revL ?_))
/-- a wish: least or just -/
def wdD (j : Bool) : D := .str (if j then "just" else "least")
/-- wishes, as they are drawn -/
structure Wi where
  j : Bool
  l : Int
  fs : List Int
def wiD (w : Wi) : D := .tup [wdD w.j, .lst (.int w.l :: w.fs.map D.int)]
def Wi.ls (w : Wi) : List Int := w.l :: w.fs
theorem wiD_ls (w : Wi) : wiD w = .tup [wdD w.j, .lst (w.ls.map D.int)] := rfl
structure Rw where
  s : Int
  t : Int
  ws : List Wi
def rwD (r : Rw) : D := .tup [.int r.s, .int r.t, .lst (r.ws.map wiD)]
structure Pg where
  nm : List Str
  pm : List Str
  rs : List Rw
def pgD (g : Pg) : D := .tup [.lst (g.nm.map D.str), .lst (g.pm.map D.str), .lst (g.rs.map rwD)]
/-- a name: one to six small letters -/
def goodNm (x : Str) : Bool := decide (1 ≤ x.length) && decide (x.length ≤ 6) && x.cps.toList.all fun c => decide (97 ≤ c) && decide (c < 123)
structure NmOk (most : Nat) (xs : List Str) : Prop where
  l1 : 1 ≤ xs.length
  l2 : xs.length ≤ most
  nd : xs.Nodup
  ok : ∀ x ∈ xs, goodNm x = true
structure WiOk (B n : Nat) (w : Wi) : Prop where
  bd : ∀ x ∈ w.ls, Bd B x
  ln : w.fs.length = n
structure RwOk (B sz pl : Nat) (r : Rw) : Prop where
  s0 : 0 ≤ r.s
  s1 : r.s < pl
  t0 : 0 ≤ r.t
  t1 : r.t < pl
  wl : r.ws.length ≤ 12
  wo : ∀ w ∈ r.ws, WiOk B (2 * sz) w
structure PgOk (B : Nat) (g : Pg) : Prop where
  nm : NmOk 3 g.nm
  pm : NmOk 6 g.pm
  rl : g.rs.length ≤ 10
  ro : ∀ r ∈ g.rs, RwOk B g.nm.length g.pm.length r
theorem WiOk.mono {B B' n : Nat} {w : Wi} (h : WiOk B n w) (hb : B ≤ B') : WiOk B' n w := ⟨fun x hx => (h.bd x hx).mono hb, h.ln⟩
/-- the number of one of so many -/
def isAt (n : Int) (d : D) : Bool := match d with
  | .int i => decide (0 ≤ i) && decide (i < n)
  | _ => false
theorem nm_ok {x : Str} (h : goodNm x = true) : x.cps.all (· < 0x110000) = true := by
  unfold goodNm at h
  rw [Bool.and_eq_true_iff, Bool.and_eq_true_iff] at h
  obtain ⟨⟨h1, h2⟩, h3⟩ := h
  rw [Array.all_eq_true']
  intro c hc
  have h4 := List.all_eq_true.mp h3 c (Array.mem_toList_iff.mpr hc)
  rw [Bool.and_eq_true_iff] at h4
  have h5 := of_decide_eq_true h4.2
  exact decide_eq_true (by omega)
theorem enum_mem {α : Type} {f : α → D} {xs : List α} {d : D} (h : d ∈ enumD (xs.map f)) : ∃ (k : Nat) (hk : k < xs.length), d = .tup [.int (k : Int), f xs[k]] := by
  unfold enumD at h
  obtain ⟨k, hk, e⟩ := List.mem_iff_getElem.mp h
  rw [List.length_zipWith, rng_len, List.length_map] at hk
  have hk' : k < xs.length := by omega
  refine ⟨k, hk', ?_⟩
  rw [List.getElem_zipWith] at e
  rw [← e]
  unfold rng
  simp
theorem size_ok {n : Nat} (h : n ≤ 1000) : n ≤ sizeLine := Nat.le_trans h (by decide)
theorem all_true {α : Type} (f : α → D) (hf : ∀ x, f x = .bl true) : ∀ xs : List α, ∃ bs, blsOf (xs.map f) = some bs ∧ bs.all id = true
  | [] => ⟨[], rfl, rfl⟩
  | x :: r => by
    obtain ⟨bs, e, h⟩ := all_true f hf r
    exact ⟨true :: bs, by rw [List.map_cons, hf x]; unfold blsOf; rw [e]; rfl, h⟩
structure Gds (xs : List D) (n k : Nat) : Prop where
  pl : plains xs = true
  ex : ∃ ps, toPys xs = some ps ∧ lay1s ps = true ∧ PyData.showableAll ps = true ∧ wts ps ≤ n ∧ PyData.depthAll ps ≤ k
theorem gds_nil {k : Nat} : Gds [] 0 k := ⟨rfl, [], rfl, rfl, rfl, Nat.zero_le _, Nat.zero_le _⟩
theorem gds_cons {x : D} {r : List D} {n m k : Nat} (h : Gd x n k) (t : Gds r m k) : Gds (x :: r) (n + 2 + m) k := by
  obtain ⟨p, a, b, c, e, f⟩ := h.sd.ex
  obtain ⟨pt, ps, a2, b2, c2, e2, f2⟩ := t
  refine ⟨Bool.and_eq_true_iff.mpr ⟨h.pl, pt⟩, p :: ps, by unfold toPys; rw [a, a2], Bool.and_eq_true_iff.mpr ⟨b, b2⟩, Bool.and_eq_true_iff.mpr ⟨c, c2⟩, ?_, Nat.max_le.mpr ⟨f, f2⟩⟩
  show wt p + 2 + wts ps ≤ n + 2 + m
  omega
theorem gd_tupS {xs : List D} {n k : Nat} (h : Gds xs n k) : Gd (.tup xs) (n + 10) (k + 1) := by
  obtain ⟨pt, ps, a, b, c, e, f⟩ := h
  refine ⟨pt, .tuple ps, by unfold toPy; rw [a]; rfl, b, c, ?_, Nat.succ_le_succ f⟩
  show wts ps + 10 ≤ _
  omega
theorem gd_lstS {xs : List D} {n k : Nat} (h : Gds xs n k) : Gd (.lst xs) (n + 10) (k + 1) := by
  obtain ⟨pt, ps, a, b, c, e, f⟩ := h
  refine ⟨pt, .list ps, by unfold toPy; rw [a]; rfl, b, c, ?_, Nat.succ_le_succ f⟩
  show wts ps + 10 ≤ _
  omega
theorem gd_nm {x : Str} (h : goodNm x = true) : Gd (.str x) 70 0 := by
  have h0 := nm_ok h
  unfold goodNm at h
  rw [Bool.and_eq_true_iff, Bool.and_eq_true_iff] at h
  have h2 := of_decide_eq_true h.1.2
  exact (gd_str x h0).mono (by omega) (by decide)
theorem gd_ints {n : Nat} {is : List Int} (h : ∀ i ∈ is, Bd n i) (hn : n ≤ 1900 := by decide) : ∀ x ∈ is.map D.int, Gd x 2000 0 := fun x hx => by
  obtain ⟨i, hi, rfl⟩ := List.mem_map.mp hx
  exact gd_int (h i hi) hn
theorem gd_line {n m : Nat} {is : List Int} (h : ∀ i ∈ is, Bd n i) (hl : is.length ≤ m) (hn : n ≤ 1900 := by decide) : Gd (.lst (is.map D.int)) (2002 * m + 10) 1 :=
  (gd_lst (gd_ints h hn)).mono (by rw [List.length_map]; exact Nat.add_le_add_right (Nat.mul_le_mul_left _ hl) _) (by decide)
theorem gd_wi {B n : Nat} {w : Wi} (h : WiOk B n w) (hn : n ≤ 6) (hB : B ≤ 1900 := by decide) : Gd (wiD w) 14200 2 := by
  have g1 := gd_line (m := 7) h.bd (by have := h.ln; show w.fs.length + 1 ≤ 7; omega) hB
  have g2 : Gd (wdD w.j) 60 0 := by
    unfold wdD
    cases w.j
    · exact (gd_lit "least").mono (by decide +kernel) (by decide)
    · exact (gd_lit "just").mono (by decide +kernel) (by decide)
  rw [wiD_ls]
  exact (gd_tupS (gds_cons (g2.mono (Nat.le_refl _) (by decide)) (gds_cons g1 gds_nil))).mono (by decide) (by decide)
theorem gd_rw {B sz pl : Nat} {r : Rw} (h : RwOk B sz pl r) (hsz : sz ≤ 3) (hpl : pl ≤ 6) (hB : B ≤ 1900 := by decide) : Gd (rwD r) 175000 4 := by
  have g1 : Gd (.lst (r.ws.map wiD)) 170434 3 := by
    refine (gd_lst (n := 14200) (k := 2) fun x hx => ?_).mono ?_ (by decide)
    · obtain ⟨w, hw, rfl⟩ := List.mem_map.mp hx
      exact gd_wi (h.wo w hw) (by omega) hB
    · have := h.wl
      rw [List.length_map]; omega
  have g2 : ∀ i : Int, 0 ≤ i → i < pl → Gd (.int i) 2000 3 := fun i h0 h1 => (gd_int (n := 3) (by unfold Bd; omega)).mono (by decide) (by decide)
  exact (gd_tupS (gds_cons (g2 _ h.s0 h.s1) (gds_cons (g2 _ h.t0 h.t1) (gds_cons g1 gds_nil)))).mono (by decide) (by decide)
theorem gd_nms {most : Nat} {xs : List Str} (h : NmOk most xs) (hm : most ≤ 6) : Gd (.lst (xs.map D.str)) 442 1 := by
  refine (gd_lst (n := 70) (k := 0) fun x hx => ?_).mono ?_ (by decide)
  · obtain ⟨s, hs, rfl⟩ := List.mem_map.mp hx
    exact gd_nm (h.ok s hs)
  · have := h.l2
    rw [List.length_map]; omega
theorem gd_pg {B : Nat} {g : Pg} (h : PgOk B g) (hB : B ≤ 1900 := by decide) : Gd (pgD g) 1800000 6 := by
  have g1 : Gd (.lst (g.rs.map rwD)) 1750030 5 := by
    refine (gd_lst (n := 175000) (k := 4) fun x hx => ?_).mono ?_ (by decide)
    · obtain ⟨r, hr, rfl⟩ := List.mem_map.mp hx
      exact gd_rw (h.ro r hr) h.nm.l2 h.pm.l2 hB
    · have := h.rl
      rw [List.length_map]; omega
  exact (gd_tupS (gds_cons ((gd_nms h.nm (by decide)).mono (Nat.le_refl _) (by decide)) (gds_cons ((gd_nms h.pm (by decide)).mono (Nat.le_refl _) (by decide)) (gds_cons g1 gds_nil)))).mono (by decide) (by decide)
def mStarA (da : DA) (ds : DS) (d : D) (m : MS) (P : List D → MS → Prop) : Prop := match asT d m with
  | some xs => da ds m fun ys m2 => P (xs ++ ys) m2
  | none => False
theorem w_aStar {de : DE} {da : DA} {ds : DS} {ms : MS} {P : List D → MS → Prop} (h : ExG de ds ms fun d m => mStarA da ds d m P) : ArG (aStar de da) ds ms P := h
theorem w_mStarA {da : DA} {ds : DS} {m : MS} {xs : List D} {P : List D → MS → Prop} (h : ArG da ds m fun ys m2 => P (xs ++ ys) m2) : mStarA da ds (.lst xs) m P := h
local macro_rules | `(tactic| walk_at "s1") => `(tactic| (with_reducible refine w_mStarA ?_))
local macro_rules | `(tactic| walk_at "s1") => `(tactic| (with_reducible refine w_aStar ?_))
local macro_rules | `(tactic| walk_at "s1") => `(tactic| ((with_reducible refine' w_mClear ?wa ?wb ?wz); (case wa => (first | assumption | exact look_new)); (case wb => (first | exact put_new | rfl))))
local macro_rules | `(tactic| walk_at "s1") => `(tactic| ((with_reducible refine' w_mPickA ?wa ?wb ?wz); (case wa => rfl); (case wb => rfl)))
local macro_rules | `(tactic| walk_at "s1") => `(tactic| (with_reducible refine w_mPickZ1 ?_))
local macro_rules | `(tactic| walk_at "s1") => `(tactic| (with_reducible refine w_mPickZ0 ?_))
local macro_rules | `(tactic| walk_at "s1.ExG") => `(tactic| (with_reducible refine w_listR ?_))
local macro_rules | `(tactic| walk_at "s1.ExG") => `(tactic| (with_reducible refine w_clear ?_))
local macro_rules | `(tactic| walk_at "s1.ExG") => `(tactic| (with_reducible refine w_pickZ ?_))
local macro_rules | `(tactic| walk_at "s1") => `(tactic| (with_reducible refine w_mIndex ?_))
local macro_rules | `(tactic| walk_at "s1.ExG") => `(tactic| (with_reducible refine w_sortSet ?_))
local macro_rules | `(tactic| walk_at "s1.ExG") => `(tactic| (with_reducible refine w_index ?_))
def topS (i : Nat) : Stmt := PySem.Challenge.pw_downweigh_k24_programs_in_order.main.body.getD i (.Pass ⟨0, 0, 0, 0⟩)
abbrev s_p_is_whole : Stmt := topS 7
theorem sc_p_is_whole : FnScope ["thing"] ["thing"] (defScope s_p_is_whole) :=
  ⟨rfl, rfl, rfl, by decide +kernel, rfl, by decide +kernel, by decide +kernel⟩
abbrev s_p_is_one_of : Stmt := topS 9
theorem sc_p_is_one_of : FnScope ["many", "thing"] ["many", "thing"] (defScope s_p_is_one_of) :=
  ⟨rfl, rfl, rfl, by decide +kernel, rfl, by decide +kernel, by decide +kernel⟩
abbrev s_p_look_at_many : Stmt := topS 14
theorem sc_p_look_at_many : FnScope ["many"] ["many"] (defScope s_p_look_at_many) :=
  ⟨rfl, rfl, rfl, by decide +kernel, rfl, by decide +kernel, by decide +kernel⟩
abbrev s_p_is_line : Stmt := topS 15
theorem sc_p_is_line : FnScope ["many", "thing", "part"] ["many", "thing"] (defScope s_p_is_line) :=
  ⟨rfl, rfl, rfl, by decide +kernel, rfl, by decide +kernel, by decide +kernel⟩
abbrev s_p_is_wish : Stmt := topS 16
theorem sc_p_is_wish : FnScope ["many", "thing", "word", "line"] ["many", "thing"] (defScope s_p_is_wish) :=
  ⟨rfl, rfl, rfl, by decide +kernel, rfl, by decide +kernel, by decide +kernel⟩
abbrev s_p_is_letters : Stmt := topS 24
theorem sc_p_is_letters : FnScope ["thing", "most", "sign"] ["thing", "most"] (defScope s_p_is_letters) :=
  ⟨rfl, rfl, rfl, by decide +kernel, rfl, by decide +kernel, by decide +kernel⟩
abbrev s_p_is_name : Stmt := topS 25
theorem sc_p_is_name : FnScope ["thing"] ["thing"] (defScope s_p_is_name) :=
  ⟨rfl, rfl, rfl, by decide +kernel, rfl, by decide +kernel, by decide +kernel⟩
abbrev s_p_look_at_names : Stmt := topS 26
theorem sc_p_look_at_names : FnScope ["part", "thing", "most", "at", "name"] ["part", "thing", "most"] (defScope s_p_look_at_names) :=
  ⟨rfl, rfl, rfl, by decide +kernel, rfl, by decide +kernel, by decide +kernel⟩
abbrev s_p_is_wishes : Stmt := topS 27
theorem sc_p_is_wishes : FnScope ["many", "thing", "wish"] ["many", "thing"] (defScope s_p_is_wishes) :=
  ⟨rfl, rfl, rfl, by decide +kernel, rfl, by decide +kernel, by decide +kernel⟩
abbrev s_p_is_row : Stmt := topS 28
theorem sc_p_is_row : FnScope ["names", "places", "thing", "start", "to", "wishes"] ["names", "places", "thing"] (defScope s_p_is_row) :=
  ⟨rfl, rfl, rfl, by decide +kernel, rfl, by decide +kernel, by decide +kernel⟩
abbrev s_p_look_at_rows : Stmt := topS 29
theorem sc_p_look_at_rows : FnScope ["names", "places", "thing", "at", "row"] ["names", "places", "thing"] (defScope s_p_look_at_rows) :=
  ⟨rfl, rfl, rfl, by decide +kernel, rfl, by decide +kernel, by decide +kernel⟩
abbrev s_p_look_at : Stmt := topS 30
theorem sc_p_look_at : FnScope ["thing", "names", "places", "rows"] ["thing"] (defScope s_p_look_at) :=
  ⟨rfl, rfl, rfl, by decide +kernel, rfl, by decide +kernel, by decide +kernel⟩
abbrev s_p_copied_wishes : Stmt := topS 31
theorem sc_p_copied_wishes : FnScope ["wishes", "word", "line"] ["wishes"] (defScope s_p_copied_wishes) :=
  ⟨rfl, rfl, rfl, by decide +kernel, rfl, by decide +kernel, by decide +kernel⟩
abbrev s_p_look_at_order : Stmt := topS 33
theorem sc_p_look_at_order : FnScope ["many", "thing", "at"] ["many", "thing"] (defScope s_p_look_at_order) :=
  ⟨rfl, rfl, rfl, by decide +kernel, rfl, by decide +kernel, by decide +kernel⟩
abbrev s_p_moved : Stmt := topS 34
theorem sc_p_moved : FnScope ["things", "order", "told", "at", "thing"] ["things", "order"] (defScope s_p_moved) :=
  ⟨rfl, rfl, rfl, by decide +kernel, rfl, by decide +kernel, by decide +kernel⟩
abbrev s_p_line_moved : Stmt := topS 35
theorem sc_p_line_moved : FnScope ["line", "order", "many"] ["line", "order"] (defScope s_p_line_moved) :=
  ⟨rfl, rfl, rfl, by decide +kernel, rfl, by decide +kernel, by decide +kernel⟩
abbrev s_p_places_ordered : Stmt := topS 36
theorem sc_p_places_ordered : FnScope ["program", "order", "names", "places", "rows", "told", "start", "to", "wishes"] ["program", "order"] (defScope s_p_places_ordered) :=
  ⟨rfl, rfl, rfl, by decide +kernel, rfl, by decide +kernel, by decide +kernel⟩
abbrev s_p_numbers_ordered : Stmt := topS 37
theorem sc_p_numbers_ordered : FnScope ["program", "order", "names", "places", "rows", "told", "start", "to", "wishes", "word", "line"] ["program", "order"] (defScope s_p_numbers_ordered) :=
  ⟨rfl, rfl, rfl, by decide +kernel, rfl, by decide +kernel, by decide +kernel⟩
abbrev s_L_pool : Stmt := topS 39
theorem sc_L_pool : FnScope ["_law_script", "_law_k", "_law_cell", "_law_mixed"] ["_law_script", "_law_k"] (defScope s_L_pool) :=
  ⟨rfl, rfl, rfl, by decide +kernel, rfl, by decide +kernel, by decide +kernel⟩
abbrev s_L_take : Stmt := topS 40
theorem sc_L_take : FnScope ["_law_pool_here", "_law_many", "_law_found"] ["_law_pool_here", "_law_many"] (defScope s_L_take) :=
  ⟨rfl, rfl, rfl, by decide +kernel, rfl, by decide +kernel, by decide +kernel⟩
abbrev s_L_names : Stmt := topS 41
theorem sc_L_names : FnScope ["_law_pool_here", "_law_many", "_law_most", "_law_found", "_law_k", "_law_word", "_law_turn"] ["_law_pool_here", "_law_many", "_law_most"] (defScope s_L_names) :=
  ⟨rfl, rfl, rfl, by decide +kernel, rfl, by decide +kernel, by decide +kernel⟩
abbrev s_L_factor : Stmt := topS 42
theorem sc_L_factor : FnScope ["_law_pool_here"] ["_law_pool_here"] (defScope s_L_factor) :=
  ⟨rfl, rfl, rfl, by decide +kernel, rfl, by decide +kernel, by decide +kernel⟩
abbrev s_L_line : Stmt := topS 43
theorem sc_L_line : FnScope ["_law_pool_here", "_law_many", "_law_turn"] ["_law_pool_here", "_law_many"] (defScope s_L_line) :=
  ⟨rfl, rfl, rfl, by decide +kernel, rfl, by decide +kernel, by decide +kernel⟩
abbrev s_L_wishes : Stmt := topS 44
theorem sc_L_wishes : FnScope ["_law_pool_here", "_law_many", "_law_most", "_law_found", "_law_turn"] ["_law_pool_here", "_law_many", "_law_most"] (defScope s_L_wishes) :=
  ⟨rfl, rfl, rfl, by decide +kernel, rfl, by decide +kernel, by decide +kernel⟩
abbrev s_L_program : Stmt := topS 45
theorem sc_L_program : FnScope ["_law_pool_here", "_law_places", "_law_rows", "_law_names_here", "_law_called", "_law_told", "_law_turn", "_law_start", "_law_to"] ["_law_pool_here", "_law_places", "_law_rows"] (defScope s_L_program) :=
  ⟨rfl, rfl, rfl, by decide +kernel, rfl, by decide +kernel, by decide +kernel⟩
abbrev s_L_order : Stmt := topS 46
theorem sc_L_order : FnScope ["_law_pool_here", "_law_many", "_law_left", "_law_turn"] ["_law_pool_here", "_law_many"] (defScope s_L_order) :=
  ⟨rfl, rfl, rfl, by decide +kernel, rfl, by decide +kernel, by decide +kernel⟩
abbrev s_L_moved : Stmt := topS 47
theorem sc_L_moved : FnScope ["_law_led", "_law_some", "_law_found", "_law_at", "_law_to"] ["_law_led", "_law_some"] (defScope s_L_moved) :=
  ⟨rfl, rfl, rfl, by decide +kernel, rfl, by decide +kernel, by decide +kernel⟩
abbrev s_L_by_places : Stmt := topS 48
theorem sc_L_by_places : FnScope ["_law_own", "_law_led", "_law_names_here", "_law_places", "_law_rows", "_law_told", "_law_start", "_law_to", "_law_wishes_here", "_law_word", "_law_line_here"] ["_law_own", "_law_led"] (defScope s_L_by_places) :=
  ⟨rfl, rfl, rfl, by decide +kernel, rfl, by decide +kernel, by decide +kernel⟩
abbrev s_L_by_numbers : Stmt := topS 49
theorem sc_L_by_numbers : FnScope ["_law_own", "_law_led", "_law_names_here", "_law_places", "_law_rows", "_law_many", "_law_told", "_law_start", "_law_to", "_law_wishes_here", "_law_turned", "_law_word", "_law_line_here", "_law_ahead"] ["_law_own", "_law_led"] (defScope s_L_by_numbers) :=
  ⟨rfl, rfl, rfl, by decide +kernel, rfl, by decide +kernel, by decide +kernel⟩
abbrev s_L_refused : Stmt := topS 50
theorem sc_L_refused : FnScope ["_law_door", "_law_own", "_law_thing", "_law_kept", "e"] ["_law_door", "_law_own", "_law_thing"] (defScope s_L_refused) :=
  ⟨rfl, rfl, rfl, by decide +kernel, rfl, by decide +kernel, by decide +kernel⟩
abbrev s_L_no_order : Stmt := topS 51
theorem sc_L_no_order : FnScope ["_law_pool_here", "_law_led", "_law_at", "_law_many", "_law_odd", "_law_some"] ["_law_pool_here", "_law_led"] (defScope s_L_no_order) :=
  ⟨rfl, rfl, rfl, by decide +kernel, rfl, by decide +kernel, by decide +kernel⟩
abbrev s_L_apart : Stmt := topS 52
theorem sc_L_apart : FnScope ["_law_told", "_law_some", "_law_row", "_law_one", "_law_total", "_law_at", "_law_word", "_law_line_here", "_law_each"] ["_law_told"] (defScope s_L_apart) :=
  ⟨rfl, rfl, rfl, by decide +kernel, rfl, by decide +kernel, by decide +kernel⟩
abbrev s_L_right : Stmt := topS 53
theorem sc_L_right : FnScope ["_law_own", "_law_led", "_law_door", "_law_tell", "_law_due", "_law_kept", "_law_found", "_law_back", "_law_number"] ["_law_own", "_law_led", "_law_door"] (defScope s_L_right) :=
  ⟨rfl, rfl, rfl, by decide +kernel, rfl, by decide +kernel, by decide +kernel⟩
abbrev s_L_law : Stmt := topS 54
theorem sc_L_law : FnScope ["_law_script", "_law_k", "_law_pool_here", "_law_own", "_law_orders", "_law_door", "_law_turn", "_law_thing", "_law_one"] ["_law_script"] (defScope s_L_law) :=
  ⟨rfl, rfl, rfl, by decide +kernel, rfl, by decide +kernel, by decide +kernel⟩
def ml_0 : List (Str × Bool) := [("NoOrder", true)]
theorem lk_ml_0_NoOrder : List.lookup ("NoOrder" : Str) ml_0 = some true := by decide +kernel
def ml_1 : List (Str × Bool) := [("NoOrder", false)]
theorem lk_ml_1_NoOrder : List.lookup ("NoOrder" : Str) ml_1 = some false := by decide +kernel
local macro_rules | `(tactic| walk_at "lk") => `(tactic| simp only [lk_ml_0_NoOrder, lk_ml_1_NoOrder, Option.isSome_some, true_and])
abbrev bm_ValueError : List Value := [.type "ValueError", .type "Exception", .type "BaseException", .type "object"]
structure Tx (P : Program) (K : PySem.W.Frag) (mg : Str → Option Value) where
  n_all : mg "all" = none
  n_bool : mg "bool" = none
  n_enumerate : mg "enumerate" = none
  n_int : mg "int" = none
  n_isinstance : mg "isinstance" = none
  n_len : mg "len" = none
  n_list : mg "list" = none
  n_max : mg "max" = none
  n_min : mg "min" = none
  n_range : mg "range" = none
  n_repr : mg "repr" = none
  n_sorted : mg "sorted" = none
  n_str : mg "str" = none
  n_sum : mg "sum" = none
  n_tuple : mg "tuple" = none
  n_zip : mg "zip" = none
  u_JUST : Tok
  c_JUST : mg "JUST" = some (.str "just" u_JUST)
  u_LEAST : Tok
  c_LEAST : mg "LEAST" = some (.str "least" u_LEAST)
  u_LETTERS : Tok
  c_LETTERS : mg "LETTERS" = some (.str "abcdefghijklmnopqrstuvwxyz" u_LETTERS)
  u_LONGEST_NAME : Tok
  c_LONGEST_NAME : mg "LONGEST_NAME" = some (.int (6) u_LONGEST_NAME)
  u_MOST_NAMES : Tok
  c_MOST_NAMES : mg "MOST_NAMES" = some (.int (3) u_MOST_NAMES)
  u_MOST_NUMBERS : Tok
  c_MOST_NUMBERS : mg "MOST_NUMBERS" = some (.int (8) u_MOST_NUMBERS)
  u_MOST_PLACES : Tok
  c_MOST_PLACES : mg "MOST_PLACES" = some (.int (6) u_MOST_PLACES)
  u_MOST_ROWS : Tok
  c_MOST_ROWS : mg "MOST_ROWS" = some (.int (10) u_MOST_ROWS)
  u_MOST_WISHES : Tok
  c_MOST_WISHES : mg "MOST_WISHES" = some (.int (12) u_MOST_WISHES)
  e_NoNumber : Addr
  gx_NoNumber : mg "NoNumber" = some (.ref e_NoNumber)
  x_NoNumber : ExB K "NoNumber" e_NoNumber
  e_NoOrder : Addr
  gx_NoOrder : mg "NoOrder" = some (.ref e_NoOrder)
  x_NoOrder : ExB K "NoOrder" e_NoOrder
  q_NoOrder : ExF K "NoOrder" e_NoOrder bm_ValueError "ValueError.__new__"
  e_NoProgram : Addr
  gx_NoProgram : mg "NoProgram" = some (.ref e_NoProgram)
  x_NoProgram : ExB K "NoProgram" e_NoProgram
  e_NoRow : Addr
  gx_NoRow : mg "NoRow" = some (.ref e_NoRow)
  x_NoRow : ExB K "NoRow" e_NoRow
  e_WeighError : Addr
  gx_WeighError : mg "WeighError" = some (.ref e_WeighError)
  x_WeighError : ExB K "WeighError" e_WeighError
  m_NoOrder_WeighError : PySem.W.subIn K (.ref e_NoOrder) (.ref e_WeighError) = some true
  kt_NoNumber : MlK K (.ref e_NoNumber) ml_1
  kt_NoOrder : MlK K (.ref e_NoOrder) ml_0
  kt_NoProgram : MlK K (.ref e_NoProgram) ml_1
  kt_NoRow : MlK K (.ref e_NoRow) ml_1
  f_p_is_whole : Addr
  d_p_is_whole : FuncData
  F_p_is_whole : Fun K "is_whole" "is_whole" s_p_is_whole f_p_is_whole d_p_is_whole
  g_p_is_whole : mg "is_whole" = some (.ref f_p_is_whole)
  f_p_is_one_of : Addr
  d_p_is_one_of : FuncData
  F_p_is_one_of : Fun K "is_one_of" "is_one_of" s_p_is_one_of f_p_is_one_of d_p_is_one_of
  g_p_is_one_of : mg "is_one_of" = some (.ref f_p_is_one_of)
  f_p_look_at_many : Addr
  d_p_look_at_many : FuncData
  F_p_look_at_many : Fun K "look_at_many" "look_at_many" s_p_look_at_many f_p_look_at_many d_p_look_at_many
  g_p_look_at_many : mg "look_at_many" = some (.ref f_p_look_at_many)
  f_p_is_line : Addr
  d_p_is_line : FuncData
  F_p_is_line : Fun K "is_line" "is_line" s_p_is_line f_p_is_line d_p_is_line
  g_p_is_line : mg "is_line" = some (.ref f_p_is_line)
  f_p_is_wish : Addr
  d_p_is_wish : FuncData
  F_p_is_wish : Fun K "is_wish" "is_wish" s_p_is_wish f_p_is_wish d_p_is_wish
  g_p_is_wish : mg "is_wish" = some (.ref f_p_is_wish)
  f_p_is_letters : Addr
  d_p_is_letters : FuncData
  F_p_is_letters : Fun K "is_letters" "is_letters" s_p_is_letters f_p_is_letters d_p_is_letters
  g_p_is_letters : mg "is_letters" = some (.ref f_p_is_letters)
  f_p_is_name : Addr
  d_p_is_name : FuncData
  F_p_is_name : Fun K "is_name" "is_name" s_p_is_name f_p_is_name d_p_is_name
  g_p_is_name : mg "is_name" = some (.ref f_p_is_name)
  f_p_look_at_names : Addr
  d_p_look_at_names : FuncData
  F_p_look_at_names : Fun K "look_at_names" "look_at_names" s_p_look_at_names f_p_look_at_names d_p_look_at_names
  g_p_look_at_names : mg "look_at_names" = some (.ref f_p_look_at_names)
  f_p_is_wishes : Addr
  d_p_is_wishes : FuncData
  F_p_is_wishes : Fun K "is_wishes" "is_wishes" s_p_is_wishes f_p_is_wishes d_p_is_wishes
  g_p_is_wishes : mg "is_wishes" = some (.ref f_p_is_wishes)
  f_p_is_row : Addr
  d_p_is_row : FuncData
  F_p_is_row : Fun K "is_row" "is_row" s_p_is_row f_p_is_row d_p_is_row
  g_p_is_row : mg "is_row" = some (.ref f_p_is_row)
  f_p_look_at_rows : Addr
  d_p_look_at_rows : FuncData
  F_p_look_at_rows : Fun K "look_at_rows" "look_at_rows" s_p_look_at_rows f_p_look_at_rows d_p_look_at_rows
  g_p_look_at_rows : mg "look_at_rows" = some (.ref f_p_look_at_rows)
  f_p_look_at : Addr
  d_p_look_at : FuncData
  F_p_look_at : Fun K "look_at" "look_at" s_p_look_at f_p_look_at d_p_look_at
  g_p_look_at : mg "look_at" = some (.ref f_p_look_at)
  f_p_copied_wishes : Addr
  d_p_copied_wishes : FuncData
  F_p_copied_wishes : Fun K "copied_wishes" "copied_wishes" s_p_copied_wishes f_p_copied_wishes d_p_copied_wishes
  g_p_copied_wishes : mg "copied_wishes" = some (.ref f_p_copied_wishes)
  f_p_look_at_order : Addr
  d_p_look_at_order : FuncData
  F_p_look_at_order : Fun K "look_at_order" "look_at_order" s_p_look_at_order f_p_look_at_order d_p_look_at_order
  g_p_look_at_order : mg "look_at_order" = some (.ref f_p_look_at_order)
  f_p_moved : Addr
  d_p_moved : FuncData
  F_p_moved : Fun K "moved" "moved" s_p_moved f_p_moved d_p_moved
  g_p_moved : mg "moved" = some (.ref f_p_moved)
  f_p_line_moved : Addr
  d_p_line_moved : FuncData
  F_p_line_moved : Fun K "line_moved" "line_moved" s_p_line_moved f_p_line_moved d_p_line_moved
  g_p_line_moved : mg "line_moved" = some (.ref f_p_line_moved)
  f_p_places_ordered : Addr
  d_p_places_ordered : FuncData
  F_p_places_ordered : Fun K "places_ordered" "places_ordered" s_p_places_ordered f_p_places_ordered d_p_places_ordered
  g_p_places_ordered : mg "places_ordered" = some (.ref f_p_places_ordered)
  f_p_numbers_ordered : Addr
  d_p_numbers_ordered : FuncData
  F_p_numbers_ordered : Fun K "numbers_ordered" "numbers_ordered" s_p_numbers_ordered f_p_numbers_ordered d_p_numbers_ordered
  g_p_numbers_ordered : mg "numbers_ordered" = some (.ref f_p_numbers_ordered)
  f_L_pool : Addr
  d_L_pool : FuncData
  F_L_pool : Fun K "_law_pool" "_law_pool" s_L_pool f_L_pool d_L_pool
  g_L_pool : mg "_law_pool" = some (.ref f_L_pool)
  f_L_take : Addr
  d_L_take : FuncData
  F_L_take : Fun K "_law_take" "_law_take" s_L_take f_L_take d_L_take
  g_L_take : mg "_law_take" = some (.ref f_L_take)
  f_L_names : Addr
  d_L_names : FuncData
  F_L_names : Fun K "_law_names" "_law_names" s_L_names f_L_names d_L_names
  g_L_names : mg "_law_names" = some (.ref f_L_names)
  f_L_factor : Addr
  d_L_factor : FuncData
  F_L_factor : Fun K "_law_factor" "_law_factor" s_L_factor f_L_factor d_L_factor
  g_L_factor : mg "_law_factor" = some (.ref f_L_factor)
  f_L_line : Addr
  d_L_line : FuncData
  F_L_line : Fun K "_law_line" "_law_line" s_L_line f_L_line d_L_line
  g_L_line : mg "_law_line" = some (.ref f_L_line)
  f_L_wishes : Addr
  d_L_wishes : FuncData
  F_L_wishes : Fun K "_law_wishes" "_law_wishes" s_L_wishes f_L_wishes d_L_wishes
  g_L_wishes : mg "_law_wishes" = some (.ref f_L_wishes)
  f_L_program : Addr
  d_L_program : FuncData
  F_L_program : Fun K "_law_program" "_law_program" s_L_program f_L_program d_L_program
  g_L_program : mg "_law_program" = some (.ref f_L_program)
  f_L_order : Addr
  d_L_order : FuncData
  F_L_order : Fun K "_law_order" "_law_order" s_L_order f_L_order d_L_order
  g_L_order : mg "_law_order" = some (.ref f_L_order)
  f_L_moved : Addr
  d_L_moved : FuncData
  F_L_moved : Fun K "_law_moved" "_law_moved" s_L_moved f_L_moved d_L_moved
  g_L_moved : mg "_law_moved" = some (.ref f_L_moved)
  f_L_by_places : Addr
  d_L_by_places : FuncData
  F_L_by_places : Fun K "_law_by_places" "_law_by_places" s_L_by_places f_L_by_places d_L_by_places
  g_L_by_places : mg "_law_by_places" = some (.ref f_L_by_places)
  f_L_by_numbers : Addr
  d_L_by_numbers : FuncData
  F_L_by_numbers : Fun K "_law_by_numbers" "_law_by_numbers" s_L_by_numbers f_L_by_numbers d_L_by_numbers
  g_L_by_numbers : mg "_law_by_numbers" = some (.ref f_L_by_numbers)
  f_L_refused : Addr
  d_L_refused : FuncData
  F_L_refused : Fun K "_law_refused" "_law_refused" s_L_refused f_L_refused d_L_refused
  g_L_refused : mg "_law_refused" = some (.ref f_L_refused)
  f_L_no_order : Addr
  d_L_no_order : FuncData
  F_L_no_order : Fun K "_law_no_order" "_law_no_order" s_L_no_order f_L_no_order d_L_no_order
  g_L_no_order : mg "_law_no_order" = some (.ref f_L_no_order)
  f_L_apart : Addr
  d_L_apart : FuncData
  F_L_apart : Fun K "_law_apart" "_law_apart" s_L_apart f_L_apart d_L_apart
  g_L_apart : mg "_law_apart" = some (.ref f_L_apart)
  f_L_right : Addr
  d_L_right : FuncData
  F_L_right : Fun K "_law_right" "_law_right" s_L_right f_L_right d_L_right
  g_L_right : mg "_law_right" = some (.ref f_L_right)
  f_L_law : Addr
  d_L_law : FuncData
  F_L_law : Fun K "law" "law" s_L_law f_L_law d_L_law
  g_L_law : mg "law" = some (.ref f_L_law)
  b_L_apart_1 : Bnd K d_L_apart ["_law_told"] 1 [] [0]
  b_L_by_numbers_2 : Bnd K d_L_by_numbers ["_law_own", "_law_led"] 2 [] [0, 1]
  b_L_by_places_2 : Bnd K d_L_by_places ["_law_own", "_law_led"] 2 [] [0, 1]
  b_L_factor_1 : Bnd K d_L_factor ["_law_pool_here"] 1 [] [0]
  b_L_line_2 : Bnd K d_L_line ["_law_pool_here", "_law_many"] 2 [] [0, 1]
  b_L_moved_2 : Bnd K d_L_moved ["_law_led", "_law_some"] 2 [] [0, 1]
  b_L_names_3 : Bnd K d_L_names ["_law_pool_here", "_law_many", "_law_most"] 3 [] [0, 1, 2]
  b_L_no_order_2 : Bnd K d_L_no_order ["_law_pool_here", "_law_led"] 2 [] [0, 1]
  b_L_order_2 : Bnd K d_L_order ["_law_pool_here", "_law_many"] 2 [] [0, 1]
  b_L_pool_2 : Bnd K d_L_pool ["_law_script", "_law_k"] 2 [] [0, 1]
  b_L_program_3 : Bnd K d_L_program ["_law_pool_here", "_law_places", "_law_rows"] 3 [] [0, 1, 2]
  b_L_refused_3 : Bnd K d_L_refused ["_law_door", "_law_own", "_law_thing"] 3 [] [0, 1, 2]
  b_L_right_3 : Bnd K d_L_right ["_law_own", "_law_led", "_law_door"] 3 [] [0, 1, 2]
  b_L_take_2 : Bnd K d_L_take ["_law_pool_here", "_law_many"] 2 [] [0, 1]
  b_L_wishes_3 : Bnd K d_L_wishes ["_law_pool_here", "_law_many", "_law_most"] 3 [] [0, 1, 2]
  b_p_copied_wishes_1 : Bnd K d_p_copied_wishes ["wishes"] 1 [] [0]
  b_p_is_letters_2 : Bnd K d_p_is_letters ["thing", "most"] 2 [] [0, 1]
  b_p_is_line_2 : Bnd K d_p_is_line ["many", "thing"] 2 [] [0, 1]
  b_p_is_name_1 : Bnd K d_p_is_name ["thing"] 1 [] [0]
  b_p_is_one_of_2 : Bnd K d_p_is_one_of ["many", "thing"] 2 [] [0, 1]
  b_p_is_row_3 : Bnd K d_p_is_row ["names", "places", "thing"] 3 [] [0, 1, 2]
  b_p_is_whole_1 : Bnd K d_p_is_whole ["thing"] 1 [] [0]
  b_p_is_wish_2 : Bnd K d_p_is_wish ["many", "thing"] 2 [] [0, 1]
  b_p_is_wishes_2 : Bnd K d_p_is_wishes ["many", "thing"] 2 [] [0, 1]
  b_p_line_moved_2 : Bnd K d_p_line_moved ["line", "order"] 2 [] [0, 1]
  b_p_look_at_1 : Bnd K d_p_look_at ["thing"] 1 [] [0]
  b_p_look_at_many_1 : Bnd K d_p_look_at_many ["many"] 1 [] [0]
  b_p_look_at_names_3 : Bnd K d_p_look_at_names ["part", "thing", "most"] 3 [] [0, 1, 2]
  b_p_look_at_order_2 : Bnd K d_p_look_at_order ["many", "thing"] 2 [] [0, 1]
  b_p_look_at_rows_3 : Bnd K d_p_look_at_rows ["names", "places", "thing"] 3 [] [0, 1, 2]
  b_p_moved_2 : Bnd K d_p_moved ["things", "order"] 2 [] [0, 1]
  b_p_numbers_ordered_0_order_program : Bnd K d_p_numbers_ordered ["program", "order"] 0 ["order", "program"] [1, 0]
  b_p_numbers_ordered_2 : Bnd K d_p_numbers_ordered ["program", "order"] 2 [] [0, 1]
  b_p_places_ordered_0_order_program : Bnd K d_p_places_ordered ["program", "order"] 0 ["order", "program"] [1, 0]
  b_p_places_ordered_2 : Bnd K d_p_places_ordered ["program", "order"] 2 [] [0, 1]
section
variable {P : Program} {w : World} {K : PySem.W.Frag} {mg : Str → Option Value} {base : Heap}
def isW (d : D) : Bool := match d with
  | .int _ => true
  | _ => false
def sp_p_is_whole : FS := fun ds ms P => match ds with
  | [d] => (∃ a, tyD d = some a) ∧ P (.bl (isW d)) ms
  | _ => False
theorem len_p_is_whole : ∀ ds ms Q, sp_p_is_whole ds ms Q → ds.length = 1 := fun ds ms Q h => by
  unfold sp_p_is_whole at h
  split at h <;> first | rfl | exact h.elim
def t_p_is_whole : DTS := dRet (dAndV (dIsi .int (dVar 0)) (dNotV (dIsi .bool (dVar 0))))
theorem whole_sem {d : D} {ms : MS} {Q : D → MS → Prop} (h : (∃ a, tyD d = some a) ∧ Q (.bl (isW d)) ms) : dAndV (dIsi .int (dVar 0)) (dNotV (dIsi .bool (dVar 0))) [some d] ms Q := by
  obtain ⟨⟨a, e⟩, h⟩ := h
  walk_at "dl"
  rw [e]
  cases d <;> cases e <;> exact h
theorem sem_p_is_whole : ∀ ds ms Q, sp_p_is_whole ds ms Q → t_p_is_whole { nx := fun _ m => Q .non m, rt := Q } (startD 1 ds) ms := by
  intro ds ms Q h
  unfold sp_p_is_whole at h
  split at h
  · unfold t_p_is_whole
    exact whole_sem h
  · exact h.elim
theorem ok_p_is_whole (T : Tx P K mg) : FnG P w K mg base 1 T.f_p_is_whole T.d_p_is_whole ["thing"] (spD K sp_p_is_whole) := by
  exact fnG_of (k := 0) (t := t_p_is_whole) T.F_p_is_whole sc_p_is_whole len_p_is_whole
    (fun cdv A outer s H hr => pds_one (pds_ret (pd_and (pd_isi .int (by decide) rfl T.n_isinstance rfl T.n_int (by decide +kernel) (by decide) (by decide) (pd_var 0)) (pd_one (pd_not (pd_isi .bool (by decide) rfl T.n_isinstance rfl T.n_bool (by decide +kernel) (by decide) (by decide) (pd_var 0)))))))
    sem_p_is_whole
def sp_p_is_one_of : FS := fun ds ms P => match ds with
  | [.int n, d] => (∃ a, tyD d = some a) ∧ P (.bl (isAt n d)) ms
  | _ => False
theorem len_p_is_one_of : ∀ ds ms Q, sp_p_is_one_of ds ms Q → ds.length = 2 := fun ds ms Q h => by
  unfold sp_p_is_one_of at h
  split at h <;> first | rfl | exact h.elim
def t_p_is_one_of : DTS := dRet (dAndV (dCall 1 0 [0] sp_p_is_whole (aCons (dVar 1) (aNil)) (aNil)) (dChain fLe fLt (dC (.int 0)) (dVar 1) (dVar 0)))
theorem sem_p_is_one_of : ∀ ds ms Q, sp_p_is_one_of ds ms Q → t_p_is_one_of { nx := fun _ m => Q .non m, rt := Q } (startD 2 ds) ms := by
  intro ds ms Q h
  unfold sp_p_is_one_of at h
  split at h
  · rename_i n d
    obtain ⟨⟨a, e⟩, h⟩ := h
    simp only [startD]
    unfold t_p_is_one_of
    walk_at "st"
    refine ⟨⟨a, e⟩, ?_⟩
    walk_at "st"
    cases d with
    | int i =>
      refine w_iteT rfl ?_
      walk_at "st"
      have h : Q (.bl (decide (0 ≤ i) && decide (i < n))) ms := h
      cases h0 : decide (0 ≤ i) with
      | true =>
        rw [h0] at h
        refine w_iteT rfl ?_
        walk_at "st"
        exact h
      | false =>
        rw [h0] at h
        refine w_iteF rfl ?_
        walk_at "st"
        exact h
    | _ =>
      refine w_iteF rfl ?_
      walk_at "st"
      exact h
  · exact h.elim
theorem ok_p_is_one_of (T : Tx P K mg) : FnG P w K mg base 2 T.f_p_is_one_of T.d_p_is_one_of ["many", "thing"] (spD K sp_p_is_one_of) := by
  have G_p_is_whole := ok_p_is_whole (P := P) (w := w) (base := base) T
  exact fnG_of (k := 1) (t := t_p_is_one_of) T.F_p_is_one_of sc_p_is_one_of len_p_is_one_of
    (fun cdv A outer s H hr => pds_one (pds_ret (pd_and (pd_call G_p_is_whole (hr.mono (by decide)) rfl T.g_p_is_whole T.F_p_is_whole.kp T.b_p_is_whole_1 (pda_cons (pd_var 1) (pda_nil))) (pd_one (pd_chain op_le opd_le op_lt opd_lt (pd_int) (pd_var 1) (pd_var 0))))))
    sem_p_is_one_of
def sp_p_look_at_many : FS := fun ds ms P => match ds with
  | [.int i] => 0 ≤ i ∧ i ≤ 8 ∧ P .non ms
  | _ => False
theorem len_p_look_at_many : ∀ ds ms Q, sp_p_look_at_many ds ms Q → ds.length = 1 := fun ds ms Q h => by
  unfold sp_p_look_at_many at h
  split at h <;> first | rfl | exact h.elim
def t_p_look_at_many : DTS := dIfS (dOr (dNot (dTest (dCall 1 0 [0] sp_p_is_whole (aCons (dVar 0) (aNil)) (aNil)))) (dOr (dTest (dOp fLt (dVar 0) (dC (.int 0)))) (dTest (dOp fGt (dVar 0) (dC (.int 8)))))) (dNever) (dNext)
theorem sem_p_look_at_many : ∀ ds ms Q, sp_p_look_at_many ds ms Q → t_p_look_at_many { nx := fun _ m => Q .non m, rt := Q } (startD 1 ds) ms := by
  intro ds ms Q h
  unfold sp_p_look_at_many at h
  split at h
  · rename_i i
    obtain ⟨h0, h8, h⟩ := h
    simp only [startD]
    unfold t_p_look_at_many
    walk_at "st"
    refine ⟨⟨_, rfl⟩, ?_⟩
    walk_at "st"
    refine w_iteF (decide_eq_false (by omega)) ?_
    walk_at "st"
    refine w_iteF (decide_eq_false (by omega)) ?_
    walk_at "st"
    exact h
  · exact h.elim
theorem ok_p_look_at_many (T : Tx P K mg) : FnG P w K mg base 2 T.f_p_look_at_many T.d_p_look_at_many ["many"] (spD K sp_p_look_at_many) := by
  have G_p_is_whole := ok_p_is_whole (P := P) (w := w) (base := base) T
  exact fnG_of (k := 1) (t := t_p_look_at_many) T.F_p_look_at_many sc_p_look_at_many len_p_look_at_many
    (fun cdv A outer s H hr => pds_one (pds_if (pdt_w (pdw_or (pdt_not (pdt_val (pd_call G_p_is_whole (hr.mono (by decide)) rfl T.g_p_is_whole T.F_p_is_whole.kp T.b_p_is_whole_1 (pda_cons (pd_var 0) (pda_nil))))) (pdw_or (pdt_cmp op_lt opd_lt (pd_var 0) (pd_int)) (pdw_or1 (pdt_cmp op_gt opd_gt (pd_var 0) (pd_glob (v := .int (8)) rfl T.c_MOST_NUMBERS ⟨_, rfl⟩ (fun _ => .int _))))))) (pds_one (pds_never)) (pds_nil)))
    sem_p_look_at_many
def sp_p_is_line : FS := fun ds ms P => match ds with
  | [.int i, .lst xs] => ∃ is : List Int, xs = is.map D.int ∧ 0 ≤ i ∧ i ≤ 8 ∧ (is.length : Int) = i + 1 ∧ P (.bl true) ms
  | _ => False
theorem len_p_is_line : ∀ ds ms Q, sp_p_is_line ds ms Q → ds.length = 2 := fun ds ms Q h => by
  unfold sp_p_is_line at h
  split at h <;> first | rfl | exact h.elim
def t_p_is_line : DTS := dSeq (dDrop (dCall 1 0 [0] sp_p_look_at_many (aCons (dVar 0) (aNil)) (aNil))) (dSeq (dIfS (dOr (dNot (dTest (dIsi .list (dVar 1)))) (dTest (dOp fNe (dCB cLen (aCons (dVar 1) (aNil))) (dOp fAdd (dVar 0) (dC (.int 1)))))) (dRet (dC (.bl false))) (dNext)) (dRet (dCB cAll (aCons (dLc (iSeq (dVar 1)) (sName 2) (dYes) (dCall 1 0 [0] sp_p_is_whole (aCons (dVar 2) (aNil)) (aNil)) [2]) (aNil)))))
theorem sem_p_is_line : ∀ ds ms Q, sp_p_is_line ds ms Q → t_p_is_line { nx := fun _ m => Q .non m, rt := Q } (startD 3 ds) ms := by
  intro ds ms Q h
  unfold sp_p_is_line at h
  split at h
  · rename_i i xs
    obtain ⟨is, rfl, h0, h8, hl, h⟩ := h
    simp only [startD]
    unfold t_p_is_line
    walk_at "st"
    refine ⟨h0, h8, ?_⟩
    walk_at "st"
    refine w_iteF (by rw [List.length_map, hl]; simp) ?_
    walk_at "st"
    simp only [wipeD, List.set]
    refine comp_e D.int (fun _ => D.bl true) is [] _ (by simp; omega) (fun x hx P0 q => ?_) ?_
    · walk_at "st"
      exact ⟨⟨_, rfl⟩, q⟩
    · rw [List.nil_append]
      walk_at "st"
      obtain ⟨bs, e, hb⟩ := all_true (fun _ : Int => D.bl true) (fun _ => rfl) is
      refine w_all e ?_
      walk_at "st"
      rw [hb]
      exact h
  · exact h.elim
theorem ok_p_is_line (T : Tx P K mg) : FnG P w K mg base 3 T.f_p_is_line T.d_p_is_line ["many", "thing"] (spD K sp_p_is_line) := by
  have G_p_look_at_many := ok_p_look_at_many (P := P) (w := w) (base := base) T
  have G_p_is_whole := ok_p_is_whole (P := P) (w := w) (base := base) T
  exact fnG_of (k := 2) (t := t_p_is_line) T.F_p_is_line sc_p_is_line len_p_is_line
    (fun cdv A outer s H hr => pds_cons (pds_expr (pd_call G_p_look_at_many (hr.mono (by decide)) rfl T.g_p_look_at_many T.F_p_look_at_many.kp T.b_p_look_at_many_1 (pda_cons (pd_var 0) (pda_nil)))) (pds_cons (pds_if (pdt_w (pdw_or (pdt_not (pdt_val (pd_isi .list (by decide) rfl T.n_isinstance rfl T.n_list (by decide +kernel) (by decide) (by decide) (pd_var 1)))) (pdw_or1 (pdt_cmp (op_neF hr.r.units) opd_ne (pd_callB call_len cal_len rfl T.n_len (by decide +kernel) (pda_cons (pd_var 1) (pda_nil))) (pd_op op_addD opd_add (pd_var 0) (pd_int)))))) (pds_one (pds_ret (pd_bl))) (pds_nil)) (pds_one (pds_ret (pd_callB (cr_all rfl) cal_all rfl T.n_all (by decide +kernel) (pda_cons (pd_lc (own := [("part", 2)]) rfl sc_p_is_line.nd (pdi_list (pd_var 1)) (blkOk_by (own := [("part", 2)]) (by kernel_rfl)) (fun _ _ _ _ _ => pg_name (i := 2) sc_p_is_line.nd rfl (by first | exact .inl rfl | exact .inr rfl)) (tg_name (i := 2) (by decide)) (mon_name (i := 2)) (fun _ _ _ _ _ => pdts_nil) (fun _ _ _ _ _ => pd_call G_p_is_whole (hr.mono (by decide)) rfl T.g_p_is_whole T.F_p_is_whole.kp T.b_p_is_whole_1 (pda_cons (pd_var 2) (pda_nil)))) (pda_nil)))))))
    sem_p_is_line
def sp_p_is_wish : FS := fun ds ms P => match ds with
  | [.int i, d] => ∃ w, d = wiD w ∧ 0 ≤ i ∧ i ≤ 8 ∧ (w.fs.length : Int) = i ∧ P (.bl true) ms
  | _ => False
theorem len_p_is_wish : ∀ ds ms Q, sp_p_is_wish ds ms Q → ds.length = 2 := fun ds ms Q h => by
  unfold sp_p_is_wish at h
  split at h <;> first | rfl | exact h.elim
def t_p_is_wish : DTS := dSeq (dDrop (dCall 1 0 [0] sp_p_look_at_many (aCons (dVar 0) (aNil)) (aNil))) (dSeq (dIfS (dOr (dNot (dTest (dIsi .tuple (dVar 1)))) (dTest (dOp fNe (dCB cLen (aCons (dVar 1) (aNil))) (dC (.int 2))))) (dRet (dC (.bl false))) (dNext)) (dSeq (dAsg (dVar 1) (sTup 2 (sCons (sName 2) (sCons (sName 3) (sNil))))) (dSeq (dIfS (dOr (dNot (dTest (dIsi .str (dVar 2)))) (dTest (dOp fNotIn (dVar 2) (dTup (aCons (dC (.str "least")) (aCons (dC (.str "just")) (aNil))))))) (dRet (dC (.bl false))) (dNext)) (dRet (dCall 2 0 [0, 1] sp_p_is_line (aCons (dVar 0) (aCons (dVar 3) (aNil))) (aNil))))))
theorem in_wd {j : Bool} {ms : MS} {P : D → MS → Prop} (q : P (.bl false) ms) : InOk (wdD j) [.str "least", .str "just"] true ms P := by
  have e : ([PyData.str "least", PyData.str "just"].any fun z => PyData.eqv z (.str (if j then "just" else "least" : String))) = true := by cases j <;> decide +kernel
  have h0 : (Str.ofString (if j then "just" else "least" : String)).cps.all (· < 0x110000) = true := ofString_ok _
  refine ⟨.str (Str.ofString (if j then "just" else "least" : String)), [.str "least", .str "just"], ?_, rfl, h0, Nat.zero_le _, by decide +kernel, ?_⟩
  · unfold wdD; cases j <;> rfl
  · rw [e]; exact q
theorem sem_p_is_wish : ∀ ds ms Q, sp_p_is_wish ds ms Q → t_p_is_wish { nx := fun _ m => Q .non m, rt := Q } (startD 4 ds) ms := by
  intro ds ms Q h
  unfold sp_p_is_wish at h
  split at h
  · rename_i i d
    obtain ⟨w, rfl, h0, h8, hl, h⟩ := h
    simp only [startD]
    unfold t_p_is_wish
    walk_at "st"
    refine ⟨h0, h8, ?_⟩
    walk_at "st"
    unfold wiD
    walk_at "st"
    refine in_wd ?_
    walk_at "st"
    refine ⟨w.l :: w.fs, rfl, h0, h8, by rw [List.length_cons]; omega, ?_⟩
    exact h
  · exact h.elim
theorem ok_p_is_wish (T : Tx P K mg) : FnG P w K mg base 4 T.f_p_is_wish T.d_p_is_wish ["many", "thing"] (spD K sp_p_is_wish) := by
  have G_p_look_at_many := ok_p_look_at_many (P := P) (w := w) (base := base) T
  have G_p_is_line := ok_p_is_line (P := P) (w := w) (base := base) T
  exact fnG_of (k := 3) (t := t_p_is_wish) T.F_p_is_wish sc_p_is_wish len_p_is_wish
    (fun cdv A outer s H hr => pds_cons (pds_expr (pd_call G_p_look_at_many (hr.mono (by decide)) rfl T.g_p_look_at_many T.F_p_look_at_many.kp T.b_p_look_at_many_1 (pda_cons (pd_var 0) (pda_nil)))) (pds_cons (pds_if (pdt_w (pdw_or (pdt_not (pdt_val (pd_isi .tuple (by decide) rfl T.n_isinstance rfl T.n_tuple (by decide +kernel) (by decide) (by decide) (pd_var 1)))) (pdw_or1 (pdt_cmp (op_neF hr.r.units) opd_ne (pd_callB call_len cal_len rfl T.n_len (by decide +kernel) (pda_cons (pd_var 1) (pda_nil))) (pd_int))))) (pds_one (pds_ret (pd_bl))) (pds_nil)) (pds_cons (pds_asg (vs := [2, 3]) (pd_var 1) (pg_tup rfl (pgs_cons (pg_name (i := 2) sc_p_is_wish.nd rfl (.inl rfl)) (pgs_cons (pg_name (i := 3) sc_p_is_wish.nd rfl (.inl rfl)) (pgs_nil)))) (tg_tup (tgs_cons (tg_name (i := 2) (by decide)) (tgs_cons (tg_name (i := 3) (by decide)) (tgs_nil) (mon_name (i := 3))) (mon_name (i := 2))))) (pds_cons (pds_if (pdt_w (pdw_or (pdt_not (pdt_val (pd_isi .str (by decide) rfl T.n_isinstance rfl T.n_str (by decide +kernel) (by decide) (by decide) (pd_var 2)))) (pdw_or1 (pdt_cmp (op_notInF hr.r.units) opd_notIn (pd_var 2) (pd_tup (pda_cons (pd_glob (v := .str "least") rfl T.c_LEAST ⟨_, rfl⟩ (fun _ => .str _)) (pda_cons (pd_glob (v := .str "just") rfl T.c_JUST ⟨_, rfl⟩ (fun _ => .str _)) (pda_nil)))) (by rfl))))) (pds_one (pds_ret (pd_bl))) (pds_nil)) (pds_one (pds_ret (pd_call G_p_is_line (hr.mono (by decide)) rfl T.g_p_is_line T.F_p_is_line.kp T.b_p_is_line_2 (pda_cons (pd_var 0) (pda_cons (pd_var 3) (pda_nil))))))))))
    sem_p_is_wish
def sp_p_is_letters : FS := fun ds ms P => match ds with
  | [.str x, .int n] => n = 6 ∧ goodNm x = true ∧ P (.bl true) ms
  | _ => False
theorem len_p_is_letters : ∀ ds ms Q, sp_p_is_letters ds ms Q → ds.length = 2 := fun ds ms Q h => by
  unfold sp_p_is_letters at h
  split at h <;> first | rfl | exact h.elim
def t_p_is_letters : DTS := dSeq (dIfS (dOr (dNot (dTest (dIsi .str (dVar 0)))) (dOr (dTest (dOp fLt (dCB cLen (aCons (dVar 0) (aNil))) (dC (.int 1)))) (dTest (dOp fGt (dCB cLen (aCons (dVar 0) (aNil))) (dVar 1))))) (dRet (dC (.bl false))) (dNext)) (dRet (dCB cAll (aCons (dLc (iStrD (dVar 0)) (sName 2) (dYes) (dOp fInSign (dVar 2) (dC (.str "abcdefghijklmnopqrstuvwxyz"))) [2]) (aNil))))
theorem letters_lit : (Str.ofString "abcdefghijklmnopqrstuvwxyz").cps.toList = [97, 98, 99, 100, 101, 102, 103, 104, 105, 106, 107, 108, 109, 110, 111, 112, 113, 114, 115, 116, 117, 118, 119, 120, 121, 122] := by decide +kernel
theorem in_letters (c : Nat) : decide (c ∈ (Str.ofString "abcdefghijklmnopqrstuvwxyz").cps.toList) = (decide (97 ≤ c) && decide (c < 123)) := by
  rw [letters_lit, Bool.eq_iff_iff, decide_eq_true_iff, Bool.and_eq_true_iff, decide_eq_true_iff, decide_eq_true_iff]
  simp only [List.mem_cons, List.not_mem_nil, or_false]
  omega
theorem sem_p_is_letters : ∀ ds ms Q, sp_p_is_letters ds ms Q → t_p_is_letters { nx := fun _ m => Q .non m, rt := Q } (startD 3 ds) ms := by
  intro ds ms Q h
  unfold sp_p_is_letters at h
  split at h
  · rename_i x n
    obtain ⟨rfl, hg, h⟩ := h
    unfold goodNm at hg
    rw [Bool.and_eq_true_iff, Bool.and_eq_true_iff] at hg
    obtain ⟨⟨g1, g2⟩, g3⟩ := hg
    have g1 := of_decide_eq_true g1
    have g2 := of_decide_eq_true g2
    have sz : x.length ≤ sizeLine := Nat.le_trans g2 (by decide)
    simp only [startD]
    unfold t_p_is_letters
    walk_at "st"
    refine ⟨sz, ?_⟩
    walk_at "st"
    refine w_iteF (decide_eq_false (by omega)) ?_
    walk_at "st"
    refine ⟨sz, ?_⟩
    walk_at "st"
    refine w_iteF (decide_eq_false (by omega)) ?_
    walk_at "st"
    simp only [wipeD, List.set]
    have hl : x.cps.toList.length ≤ 6 := g2
    refine comp_e (fun c => D.str ⟨#[c]⟩) (fun c => D.bl (decide (97 ≤ c) && decide (c < 123))) x.cps.toList [] _ (by simp only [List.length_nil]; omega) (fun c hc P0 q => ?_) ?_
    · walk_at "st"
      rw [in_letters]
      exact q
    · rw [List.nil_append]
      walk_at "st"
      refine w_all (bls_map _ _) ?_
      rw [show (x.cps.toList.map fun c => decide (97 ≤ c) && decide (c < 123)).all id = x.cps.toList.all fun c => decide (97 ≤ c) && decide (c < 123) by rw [List.all_map]; rfl, g3]
      walk_at "st"
      exact h
  · exact h.elim
theorem ok_p_is_letters (T : Tx P K mg) : FnG P w K mg base 1 T.f_p_is_letters T.d_p_is_letters ["thing", "most"] (spD K sp_p_is_letters) := by
  exact fnG_of (k := 0) (t := t_p_is_letters) T.F_p_is_letters sc_p_is_letters len_p_is_letters
    (fun cdv A outer s H hr => pds_cons (pds_if (pdt_w (pdw_or (pdt_not (pdt_val (pd_isi .str (by decide) rfl T.n_isinstance rfl T.n_str (by decide +kernel) (by decide) (by decide) (pd_var 0)))) (pdw_or (pdt_cmp op_lt opd_lt (pd_callB call_len cal_len rfl T.n_len (by decide +kernel) (pda_cons (pd_var 0) (pda_nil))) (pd_int)) (pdw_or1 (pdt_cmp op_gt opd_gt (pd_callB call_len cal_len rfl T.n_len (by decide +kernel) (pda_cons (pd_var 0) (pda_nil))) (pd_var 1)))))) (pds_one (pds_ret (pd_bl))) (pds_nil)) (pds_one (pds_ret (pd_callB (cr_all rfl) cal_all rfl T.n_all (by decide +kernel) (pda_cons (pd_lc (own := [("sign", 2)]) rfl sc_p_is_letters.nd (pdi_str (pd_var 0)) (blkOk_by (own := [("sign", 2)]) (by kernel_rfl)) (fun _ _ _ _ _ => pg_name (i := 2) sc_p_is_letters.nd rfl (by first | exact .inl rfl | exact .inr rfl)) (tg_name (i := 2) (by decide)) (mon_name (i := 2)) (fun _ _ _ _ _ => pdts_nil) (fun _ _ _ _ _ => pd_cmp op_in_sign opd_inSign (pd_var 2) (pd_glob (v := .str "abcdefghijklmnopqrstuvwxyz") rfl T.c_LETTERS ⟨_, rfl⟩ (fun _ => .str _)) (by rfl))) (pda_nil))))))
    sem_p_is_letters
def sp_p_is_name : FS := fun ds ms P => match ds with
  | [.str x] => goodNm x = true ∧ P (.bl true) ms
  | _ => False
theorem len_p_is_name : ∀ ds ms Q, sp_p_is_name ds ms Q → ds.length = 1 := fun ds ms Q h => by
  unfold sp_p_is_name at h
  split at h <;> first | rfl | exact h.elim
def t_p_is_name : DTS := dRet (dCall 2 0 [0, 1] sp_p_is_letters (aCons (dVar 0) (aCons (dC (.int 6)) (aNil))) (aNil))
theorem sem_p_is_name : ∀ ds ms Q, sp_p_is_name ds ms Q → t_p_is_name { nx := fun _ m => Q .non m, rt := Q } (startD 1 ds) ms := by
  intro ds ms Q h
  unfold sp_p_is_name at h
  split at h
  · simp only [startD]
    unfold t_p_is_name
    walk_at "st"
    exact ⟨rfl, h⟩
  · exact h.elim
theorem ok_p_is_name (T : Tx P K mg) : FnG P w K mg base 2 T.f_p_is_name T.d_p_is_name ["thing"] (spD K sp_p_is_name) := by
  have G_p_is_letters := ok_p_is_letters (P := P) (w := w) (base := base) T
  exact fnG_of (k := 1) (t := t_p_is_name) T.F_p_is_name sc_p_is_name len_p_is_name
    (fun cdv A outer s H hr => pds_one (pds_ret (pd_call G_p_is_letters (hr.mono (by decide)) rfl T.g_p_is_letters T.F_p_is_letters.kp T.b_p_is_letters_2 (pda_cons (pd_var 0) (pda_cons (pd_glob (v := .int (6)) rfl T.c_LONGEST_NAME ⟨_, rfl⟩ (fun _ => .int _)) (pda_nil))))))
    sem_p_is_name
def sp_p_look_at_names : FS := fun ds ms P => match ds with
  | [.str _, .lst ys, .int n] => ∃ xs : List Str, ys = xs.map D.str ∧ 0 ≤ n ∧ n ≤ 6 ∧ NmOk n.toNat xs ∧ P .non ms
  | _ => False
theorem len_p_look_at_names : ∀ ds ms Q, sp_p_look_at_names ds ms Q → ds.length = 3 := fun ds ms Q h => by
  unfold sp_p_look_at_names at h
  split at h <;> first | rfl | exact h.elim
def t_p_look_at_names : DTS := dSeq (dIfS (dOr (dNot (dTest (dIsi .list (dVar 1)))) (dOr (dTest (dOp fLt (dCB cLen (aCons (dVar 1) (aNil))) (dC (.int 1)))) (dTest (dOp fGt (dCB cLen (aCons (dVar 1) (aNil))) (dVar 2))))) (dNever) (dNext)) (dFor (iEnumD (aCons (dVar 1) (aNil))) (sTup 2 (sCons (sName 3) (sCons (sName 4) (sNil)))) (dIfS (dOr (dNot (dTest (dCall 1 0 [0] sp_p_is_name (aCons (dVar 4) (aNil)) (aNil)))) (dTest (dOp fIn (dVar 4) (dSl (dVar 1) (oNone) (oSome (dVar 3)))))) (dNever) (dNext)))
theorem nm_notin {x : Str} {ys : List Str} {ms : MS} {P : D → MS → Prop} (hx : goodNm x = true) (hy : ∀ y ∈ ys, goodNm y = true) (hl : ys.length ≤ 100) (hn : x ∉ ys) (q : P (.bl false) ms) : InOk (.str x) (ys.map D.str) false ms P := by
  have py : ∀ ys : List Str, (∀ y ∈ ys, goodNm y = true) → toPys (ys.map D.str) = some (ys.map PyData.str) ∧ PyData.canLayAll0 (ys.map PyData.str) = true ∧ PyData.depthAll (ys.map PyData.str) = 0 := by
    intro ys
    induction ys with
    | nil => intro _; exact ⟨rfl, rfl, rfl⟩
    | cons y r ih =>
      intro h
      obtain ⟨e1, e2, e3⟩ := ih fun z hz => h z (List.mem_cons_of_mem _ hz)
      have ey : y.cps.all (· < 0x110000) = true := nm_ok (h y List.mem_cons_self)
      refine ⟨by rw [List.map_cons]; unfold toPys; rw [e1]; rfl, Bool.and_eq_true_iff.mpr ⟨ey, e2⟩, ?_⟩
      show max 0 (PyData.depthAll (r.map PyData.str)) = 0
      rw [e3]; rfl
  obtain ⟨e1, e2, e3⟩ := py ys hy
  refine ⟨.str x, ys.map PyData.str, rfl, e1, nm_ok hx, Nat.zero_le _, e2, ?_⟩
  · have e : ((ys.map PyData.str).any fun z => PyData.eqv z (.str x)) = false := by
      rw [List.any_map, List.any_eq_false]
      intro y hy z
      have z : (y == x) = true := z
      exact hn (beq_iff_eq.mp z ▸ hy)
    rw [e]
    exact q
theorem sem_p_look_at_names : ∀ ds ms Q, sp_p_look_at_names ds ms Q → t_p_look_at_names { nx := fun _ m => Q .non m, rt := Q } (startD 5 ds) ms := by
  intro ds ms Q h
  unfold sp_p_look_at_names at h
  split at h
  · rename_i part ys n
    obtain ⟨xs, rfl, n0, n6, ok, h⟩ := h
    have l1 := ok.l1
    have l2 := ok.l2
    simp only [startD]
    unfold t_p_look_at_names
    walk_at "st"
    refine w_iteF (decide_eq_false (by rw [List.length_map]; omega)) ?_
    walk_at "st"
    refine w_iteF (decide_eq_false (by rw [List.length_map]; omega)) ?_
    walk_at "st"
    refine loop_inv (fun ds m => m = ms ∧ ∃ x3 x4, ds = [some (.str part), some (.lst (xs.map D.str)), some (.int n), x3, x4]) _ _ _ ⟨rfl, _, _, rfl⟩ ?_ ?_
    · rintro d hd ds m ⟨rfl, x3, x4, rfl⟩ N hN
      obtain ⟨k, hk, rfl⟩ := enum_mem hd
      walk_at "st"
      refine ⟨ok.ok _ (List.getElem_mem hk), ?_⟩
      walk_at "st"
      rw [cut_to _ _ (by rw [List.length_map]; omega), ← List.map_take]
      refine nm_notin (ok.ok _ (List.getElem_mem hk)) (fun y hy => ok.ok y (List.mem_of_mem_take hy)) (by rw [List.length_take]; omega) (fun z => ?_) ?_
      · obtain ⟨j, hj, e⟩ := List.mem_iff_getElem.mp z
        rw [List.length_take] at hj
        rw [List.getElem_take] at e
        exact List.pairwise_iff_getElem.mp ok.nd j k (by omega) hk (by omega) e
      · walk_at "st"
        exact hN _ _ ⟨rfl, _, _, rfl⟩
    · rintro ds m ⟨rfl, _, _, rfl⟩
      exact h
  · exact h.elim
theorem ok_p_look_at_names (T : Tx P K mg) : FnG P w K mg base 3 T.f_p_look_at_names T.d_p_look_at_names ["part", "thing", "most"] (spD K sp_p_look_at_names) := by
  have G_p_is_name := ok_p_is_name (P := P) (w := w) (base := base) T
  exact fnG_of (k := 2) (t := t_p_look_at_names) T.F_p_look_at_names sc_p_look_at_names len_p_look_at_names
    (fun cdv A outer s H hr => pds_cons (pds_if (pdt_w (pdw_or (pdt_not (pdt_val (pd_isi .list (by decide) rfl T.n_isinstance rfl T.n_list (by decide +kernel) (by decide) (by decide) (pd_var 1)))) (pdw_or (pdt_cmp op_lt opd_lt (pd_callB call_len cal_len rfl T.n_len (by decide +kernel) (pda_cons (pd_var 1) (pda_nil))) (pd_int)) (pdw_or1 (pdt_cmp op_gt opd_gt (pd_callB call_len cal_len rfl T.n_len (by decide +kernel) (pda_cons (pd_var 1) (pda_nil))) (pd_var 2)))))) (pds_one (pds_never)) (pds_nil)) (pds_one (pds_for (vs := [3, 4]) rfl (pdi_enum rfl T.n_enumerate (pda_cons (pd_var 1) (pda_nil))) (pg_tup rfl (pgs_cons (pg_name (i := 3) sc_p_look_at_names.nd rfl (.inl rfl)) (pgs_cons (pg_name (i := 4) sc_p_look_at_names.nd rfl (.inl rfl)) (pgs_nil)))) (tg_tup (tgs_cons (tg_name (i := 3) (by decide)) (tgs_cons (tg_name (i := 4) (by decide)) (tgs_nil) (mon_name (i := 4))) (mon_name (i := 3)))) (pds_one (pds_if (pdt_w (pdw_or (pdt_not (pdt_val (pd_call G_p_is_name (hr.mono (by decide)) rfl T.g_p_is_name T.F_p_is_name.kp T.b_p_is_name_1 (pda_cons (pd_var 4) (pda_nil))))) (pdw_or1 (pdt_cmp (op_inF hr.r.units) opd_in (pd_var 4) (pd_slice (pd_var 1) (pdo_none) (pdo_some (pd_var 3))) (by rfl))))) (pds_one (pds_never)) (pds_nil))))))
    sem_p_look_at_names
def sp_p_is_wishes : FS := fun ds ms P => match ds with
  | [.int i, .lst ys] => ∃ (ws : List Wi) (B n : Nat), ys = ws.map wiD ∧ i = (n : Int) ∧ n ≤ 8 ∧ ws.length ≤ 12 ∧ (∀ w ∈ ws, WiOk B n w) ∧ P (.bl true) ms
  | _ => False
theorem len_p_is_wishes : ∀ ds ms Q, sp_p_is_wishes ds ms Q → ds.length = 2 := fun ds ms Q h => by
  unfold sp_p_is_wishes at h
  split at h <;> first | rfl | exact h.elim
def t_p_is_wishes : DTS := dSeq (dIfS (dOr (dNot (dTest (dIsi .list (dVar 1)))) (dTest (dOp fGt (dCB cLen (aCons (dVar 1) (aNil))) (dC (.int 12))))) (dRet (dC (.bl false))) (dNext)) (dRet (dCB cAll (aCons (dLc (iSeq (dVar 1)) (sName 2) (dYes) (dCall 2 0 [0, 1] sp_p_is_wish (aCons (dVar 0) (aCons (dVar 2) (aNil))) (aNil)) [2]) (aNil))))
theorem sem_p_is_wishes : ∀ ds ms Q, sp_p_is_wishes ds ms Q → t_p_is_wishes { nx := fun _ m => Q .non m, rt := Q } (startD 3 ds) ms := by
  intro ds ms Q h
  unfold sp_p_is_wishes at h
  split at h
  · rename_i i ys
    obtain ⟨ws, B, n, rfl, rfl, n8, wl, wo, h⟩ := h
    simp only [startD]
    unfold t_p_is_wishes
    walk_at "st"
    refine w_iteF (decide_eq_false (by rw [List.length_map]; omega)) ?_
    walk_at "st"
    simp only [wipeD, List.set]
    refine comp_e wiD (fun _ => D.bl true) ws [] _ (by simp; omega) (fun w hw P0 q => ?_) ?_
    · walk_at "st"
      exact ⟨w, rfl, by omega, by omega, by rw [(wo w hw).ln], q⟩
    · rw [List.nil_append]
      walk_at "st"
      obtain ⟨bs, e, hb⟩ := all_true (fun _ : Wi => D.bl true) (fun _ => rfl) ws
      refine w_all e ?_
      walk_at "st"
      rw [hb]
      exact h
  · exact h.elim
theorem ok_p_is_wishes (T : Tx P K mg) : FnG P w K mg base 5 T.f_p_is_wishes T.d_p_is_wishes ["many", "thing"] (spD K sp_p_is_wishes) := by
  have G_p_is_wish := ok_p_is_wish (P := P) (w := w) (base := base) T
  exact fnG_of (k := 4) (t := t_p_is_wishes) T.F_p_is_wishes sc_p_is_wishes len_p_is_wishes
    (fun cdv A outer s H hr => pds_cons (pds_if (pdt_w (pdw_or (pdt_not (pdt_val (pd_isi .list (by decide) rfl T.n_isinstance rfl T.n_list (by decide +kernel) (by decide) (by decide) (pd_var 1)))) (pdw_or1 (pdt_cmp op_gt opd_gt (pd_callB call_len cal_len rfl T.n_len (by decide +kernel) (pda_cons (pd_var 1) (pda_nil))) (pd_glob (v := .int (12)) rfl T.c_MOST_WISHES ⟨_, rfl⟩ (fun _ => .int _)))))) (pds_one (pds_ret (pd_bl))) (pds_nil)) (pds_one (pds_ret (pd_callB (cr_all rfl) cal_all rfl T.n_all (by decide +kernel) (pda_cons (pd_lc (own := [("wish", 2)]) rfl sc_p_is_wishes.nd (pdi_list (pd_var 1)) (blkOk_by (own := [("wish", 2)]) (by kernel_rfl)) (fun _ _ _ _ _ => pg_name (i := 2) sc_p_is_wishes.nd rfl (by first | exact .inl rfl | exact .inr rfl)) (tg_name (i := 2) (by decide)) (mon_name (i := 2)) (fun _ _ _ _ _ => pdts_nil) (fun _ _ _ _ _ => pd_call G_p_is_wish (hr.mono (by decide)) rfl T.g_p_is_wish T.F_p_is_wish.kp T.b_p_is_wish_2 (pda_cons (pd_var 0) (pda_cons (pd_var 2) (pda_nil))))) (pda_nil))))))
    sem_p_is_wishes
def sp_p_is_row : FS := fun ds ms P => match ds with
  | [.int a, .int b, d] => ∃ (r : Rw) (B sz pl : Nat), d = rwD r ∧ a = (sz : Int) ∧ b = (pl : Int) ∧ sz ≤ 3 ∧ RwOk B sz pl r ∧ P (.bl true) ms
  | _ => False
theorem len_p_is_row : ∀ ds ms Q, sp_p_is_row ds ms Q → ds.length = 3 := fun ds ms Q h => by
  unfold sp_p_is_row at h
  split at h <;> first | rfl | exact h.elim
def t_p_is_row : DTS := dSeq (dIfS (dOr (dNot (dTest (dIsi .tuple (dVar 2)))) (dTest (dOp fNe (dCB cLen (aCons (dVar 2) (aNil))) (dC (.int 3))))) (dRet (dC (.bl false))) (dNext)) (dSeq (dAsg (dVar 2) (sTup 3 (sCons (sName 3) (sCons (sName 4) (sCons (sName 5) (sNil)))))) (dSeq (dIfS (dOr (dNot (dTest (dCall 2 0 [0, 1] sp_p_is_one_of (aCons (dVar 1) (aCons (dVar 3) (aNil))) (aNil)))) (dNot (dTest (dCall 2 0 [0, 1] sp_p_is_one_of (aCons (dVar 1) (aCons (dVar 4) (aNil))) (aNil))))) (dRet (dC (.bl false))) (dNext)) (dRet (dCall 2 0 [0, 1] sp_p_is_wishes (aCons (dOp fMul (dC (.int 2)) (dVar 0)) (aCons (dVar 5) (aNil))) (aNil)))))
theorem sem_p_is_row : ∀ ds ms Q, sp_p_is_row ds ms Q → t_p_is_row { nx := fun _ m => Q .non m, rt := Q } (startD 6 ds) ms := by
  intro ds ms Q h
  unfold sp_p_is_row at h
  split at h
  · rename_i a b d
    obtain ⟨r, B, sz, pl, rfl, rfl, rfl, s3, ok, h⟩ := h
    simp only [startD]
    unfold t_p_is_row
    walk_at "st"
    unfold rwD
    walk_at "st"
    refine ⟨⟨_, rfl⟩, ?_⟩
    have hs : isAt (pl : Int) (.int r.s) = true := by
      show (decide (0 ≤ r.s) && decide (r.s < (pl : Int))) = true
      rw [decide_eq_true ok.s0, decide_eq_true ok.s1]; rfl
    have ht : isAt (pl : Int) (.int r.t) = true := by
      show (decide (0 ≤ r.t) && decide (r.t < (pl : Int))) = true
      rw [decide_eq_true ok.t0, decide_eq_true ok.t1]; rfl
    rw [hs]
    walk_at "st"
    refine ⟨⟨_, rfl⟩, ?_⟩
    rw [ht]
    walk_at "st"
    refine ⟨.inr (.inl ⟨by decide, by decide⟩), ?_⟩
    walk_at "st"
    refine ⟨r.ws, B, 2 * sz, rfl, by omega, by omega, ok.wl, ok.wo, ?_⟩
    exact h
  · exact h.elim
theorem ok_p_is_row (T : Tx P K mg) : FnG P w K mg base 6 T.f_p_is_row T.d_p_is_row ["names", "places", "thing"] (spD K sp_p_is_row) := by
  have G_p_is_wishes := ok_p_is_wishes (P := P) (w := w) (base := base) T
  have G_p_is_one_of := ok_p_is_one_of (P := P) (w := w) (base := base) T
  exact fnG_of (k := 5) (t := t_p_is_row) T.F_p_is_row sc_p_is_row len_p_is_row
    (fun cdv A outer s H hr => pds_cons (pds_if (pdt_w (pdw_or (pdt_not (pdt_val (pd_isi .tuple (by decide) rfl T.n_isinstance rfl T.n_tuple (by decide +kernel) (by decide) (by decide) (pd_var 2)))) (pdw_or1 (pdt_cmp (op_neF hr.r.units) opd_ne (pd_callB call_len cal_len rfl T.n_len (by decide +kernel) (pda_cons (pd_var 2) (pda_nil))) (pd_int))))) (pds_one (pds_ret (pd_bl))) (pds_nil)) (pds_cons (pds_asg (vs := [3, 4, 5]) (pd_var 2) (pg_tup rfl (pgs_cons (pg_name (i := 3) sc_p_is_row.nd rfl (.inl rfl)) (pgs_cons (pg_name (i := 4) sc_p_is_row.nd rfl (.inl rfl)) (pgs_cons (pg_name (i := 5) sc_p_is_row.nd rfl (.inl rfl)) (pgs_nil))))) (tg_tup (tgs_cons (tg_name (i := 3) (by decide)) (tgs_cons (tg_name (i := 4) (by decide)) (tgs_cons (tg_name (i := 5) (by decide)) (tgs_nil) (mon_name (i := 5))) (mon_name (i := 4))) (mon_name (i := 3))))) (pds_cons (pds_if (pdt_w (pdw_or (pdt_not (pdt_val (pd_call G_p_is_one_of (hr.mono (by decide)) rfl T.g_p_is_one_of T.F_p_is_one_of.kp T.b_p_is_one_of_2 (pda_cons (pd_var 1) (pda_cons (pd_var 3) (pda_nil)))))) (pdw_or1 (pdt_not (pdt_val (pd_call G_p_is_one_of (hr.mono (by decide)) rfl T.g_p_is_one_of T.F_p_is_one_of.kp T.b_p_is_one_of_2 (pda_cons (pd_var 1) (pda_cons (pd_var 4) (pda_nil))))))))) (pds_one (pds_ret (pd_bl))) (pds_nil)) (pds_one (pds_ret (pd_call G_p_is_wishes (hr.mono (by decide)) rfl T.g_p_is_wishes T.F_p_is_wishes.kp T.b_p_is_wishes_2 (pda_cons (pd_op op_mulA opd_mul (pd_int) (pd_var 0)) (pda_cons (pd_var 5) (pda_nil)))))))))
    sem_p_is_row
def sp_p_look_at_rows : FS := fun ds ms P => match ds with
  | [.int a, .int b, .lst ys] => ∃ (rs : List Rw) (B sz pl : Nat), ys = rs.map rwD ∧ a = (sz : Int) ∧ b = (pl : Int) ∧ sz ≤ 3 ∧ rs.length ≤ 10 ∧ (∀ r ∈ rs, RwOk B sz pl r) ∧ P .non ms
  | _ => False
theorem len_p_look_at_rows : ∀ ds ms Q, sp_p_look_at_rows ds ms Q → ds.length = 3 := fun ds ms Q h => by
  unfold sp_p_look_at_rows at h
  split at h <;> first | rfl | exact h.elim
def t_p_look_at_rows : DTS := dSeq (dIfS (dOr (dNot (dTest (dIsi .list (dVar 2)))) (dTest (dOp fGt (dCB cLen (aCons (dVar 2) (aNil))) (dC (.int 10))))) (dNever) (dNext)) (dFor (iEnumD (aCons (dVar 2) (aNil))) (sTup 2 (sCons (sName 3) (sCons (sName 4) (sNil)))) (dIfS (dNot (dTest (dCall 3 0 [0, 1, 2] sp_p_is_row (aCons (dVar 0) (aCons (dVar 1) (aCons (dVar 4) (aNil)))) (aNil)))) (dNever) (dNext)))
theorem sem_p_look_at_rows : ∀ ds ms Q, sp_p_look_at_rows ds ms Q → t_p_look_at_rows { nx := fun _ m => Q .non m, rt := Q } (startD 5 ds) ms := by
  intro ds ms Q h
  unfold sp_p_look_at_rows at h
  split at h
  · rename_i a b ys
    obtain ⟨rs, B, sz, pl, rfl, rfl, rfl, s3, rl, ro, h⟩ := h
    simp only [startD]
    unfold t_p_look_at_rows
    walk_at "st"
    refine w_iteF (decide_eq_false (by rw [List.length_map]; omega)) ?_
    walk_at "st"
    refine loop_inv (fun ds m => m = ms ∧ ∃ x3 x4, ds = [some (.int (sz : Int)), some (.int (pl : Int)), some (.lst (rs.map rwD)), x3, x4]) _ _ _ ⟨rfl, _, _, rfl⟩ ?_ ?_
    · rintro d hd ds m ⟨rfl, x3, x4, rfl⟩ N hN
      obtain ⟨k, hk, rfl⟩ := enum_mem hd
      walk_at "st"
      refine ⟨_, B, sz, pl, rfl, rfl, rfl, s3, ro _ (List.getElem_mem hk), ?_⟩
      walk_at "st"
      exact hN _ _ ⟨rfl, _, _, rfl⟩
    · rintro ds m ⟨rfl, _, _, rfl⟩
      exact h
  · exact h.elim
theorem ok_p_look_at_rows (T : Tx P K mg) : FnG P w K mg base 7 T.f_p_look_at_rows T.d_p_look_at_rows ["names", "places", "thing"] (spD K sp_p_look_at_rows) := by
  have G_p_is_row := ok_p_is_row (P := P) (w := w) (base := base) T
  exact fnG_of (k := 6) (t := t_p_look_at_rows) T.F_p_look_at_rows sc_p_look_at_rows len_p_look_at_rows
    (fun cdv A outer s H hr => pds_cons (pds_if (pdt_w (pdw_or (pdt_not (pdt_val (pd_isi .list (by decide) rfl T.n_isinstance rfl T.n_list (by decide +kernel) (by decide) (by decide) (pd_var 2)))) (pdw_or1 (pdt_cmp op_gt opd_gt (pd_callB call_len cal_len rfl T.n_len (by decide +kernel) (pda_cons (pd_var 2) (pda_nil))) (pd_glob (v := .int (10)) rfl T.c_MOST_ROWS ⟨_, rfl⟩ (fun _ => .int _)))))) (pds_one (pds_never)) (pds_nil)) (pds_one (pds_for (vs := [3, 4]) rfl (pdi_enum rfl T.n_enumerate (pda_cons (pd_var 2) (pda_nil))) (pg_tup rfl (pgs_cons (pg_name (i := 3) sc_p_look_at_rows.nd rfl (.inl rfl)) (pgs_cons (pg_name (i := 4) sc_p_look_at_rows.nd rfl (.inl rfl)) (pgs_nil)))) (tg_tup (tgs_cons (tg_name (i := 3) (by decide)) (tgs_cons (tg_name (i := 4) (by decide)) (tgs_nil) (mon_name (i := 4))) (mon_name (i := 3)))) (pds_one (pds_if (pdt_not (pdt_val (pd_call G_p_is_row (hr.mono (by decide)) rfl T.g_p_is_row T.F_p_is_row.kp T.b_p_is_row_3 (pda_cons (pd_var 0) (pda_cons (pd_var 1) (pda_cons (pd_var 4) (pda_nil))))))) (pds_one (pds_never)) (pds_nil))))))
    sem_p_look_at_rows
def sp_p_look_at : FS := fun ds ms P => match ds with
  | [d] => ∃ (g : Pg) (B : Nat), d = pgD g ∧ PgOk B g ∧ P .non ms
  | _ => False
theorem len_p_look_at : ∀ ds ms Q, sp_p_look_at ds ms Q → ds.length = 1 := fun ds ms Q h => by
  unfold sp_p_look_at at h
  split at h <;> first | rfl | exact h.elim
def t_p_look_at : DTS := dSeq (dIfS (dOr (dNot (dTest (dIsi .tuple (dVar 0)))) (dTest (dOp fNe (dCB cLen (aCons (dVar 0) (aNil))) (dC (.int 3))))) (dNever) (dNext)) (dSeq (dAsg (dVar 0) (sTup 3 (sCons (sName 1) (sCons (sName 2) (sCons (sName 3) (sNil)))))) (dSeq (dDrop (dCall 3 0 [0, 1, 2] sp_p_look_at_names (aCons (dC (.str "names")) (aCons (dVar 1) (aCons (dC (.int 3)) (aNil)))) (aNil))) (dSeq (dDrop (dCall 3 0 [0, 1, 2] sp_p_look_at_names (aCons (dC (.str "places")) (aCons (dVar 2) (aCons (dC (.int 6)) (aNil)))) (aNil))) (dDrop (dCall 3 0 [0, 1, 2] sp_p_look_at_rows (aCons (dCB cLen (aCons (dVar 1) (aNil))) (aCons (dCB cLen (aCons (dVar 2) (aNil))) (aCons (dVar 3) (aNil)))) (aNil))))))
theorem sem_p_look_at : ∀ ds ms Q, sp_p_look_at ds ms Q → t_p_look_at { nx := fun _ m => Q .non m, rt := Q } (startD 4 ds) ms := by
  intro ds ms Q h
  unfold sp_p_look_at at h
  split at h
  · rename_i d
    obtain ⟨g, B, rfl, ok, h⟩ := h
    simp only [startD]
    unfold t_p_look_at
    walk_at "st"
    unfold pgD
    walk_at "st"
    refine ⟨g.nm, rfl, by decide, by decide, ok.nm, ?_⟩
    walk_at "st"
    refine ⟨g.pm, rfl, by decide, by decide, ok.pm, ?_⟩
    walk_at "st"
    rw [List.length_map, List.length_map]
    exact ⟨g.rs, B, g.nm.length, g.pm.length, rfl, rfl, rfl, ok.nm.l2, ok.rl, ok.ro, h⟩
  · exact h.elim
theorem ok_p_look_at (T : Tx P K mg) : FnG P w K mg base 8 T.f_p_look_at T.d_p_look_at ["thing"] (spD K sp_p_look_at) := by
  have G_p_look_at_names := ok_p_look_at_names (P := P) (w := w) (base := base) T
  have G_p_look_at_rows := ok_p_look_at_rows (P := P) (w := w) (base := base) T
  exact fnG_of (k := 7) (t := t_p_look_at) T.F_p_look_at sc_p_look_at len_p_look_at
    (fun cdv A outer s H hr => pds_cons (pds_if (pdt_w (pdw_or (pdt_not (pdt_val (pd_isi .tuple (by decide) rfl T.n_isinstance rfl T.n_tuple (by decide +kernel) (by decide) (by decide) (pd_var 0)))) (pdw_or1 (pdt_cmp (op_neF hr.r.units) opd_ne (pd_callB call_len cal_len rfl T.n_len (by decide +kernel) (pda_cons (pd_var 0) (pda_nil))) (pd_int))))) (pds_one (pds_never)) (pds_nil)) (pds_cons (pds_asg (vs := [1, 2, 3]) (pd_var 0) (pg_tup rfl (pgs_cons (pg_name (i := 1) sc_p_look_at.nd rfl (.inl rfl)) (pgs_cons (pg_name (i := 2) sc_p_look_at.nd rfl (.inl rfl)) (pgs_cons (pg_name (i := 3) sc_p_look_at.nd rfl (.inl rfl)) (pgs_nil))))) (tg_tup (tgs_cons (tg_name (i := 1) (by decide)) (tgs_cons (tg_name (i := 2) (by decide)) (tgs_cons (tg_name (i := 3) (by decide)) (tgs_nil) (mon_name (i := 3))) (mon_name (i := 2))) (mon_name (i := 1))))) (pds_cons (pds_expr (pd_call G_p_look_at_names (hr.mono (by decide)) rfl T.g_p_look_at_names T.F_p_look_at_names.kp T.b_p_look_at_names_3 (pda_cons (pd_str) (pda_cons (pd_var 1) (pda_cons (pd_glob (v := .int (3)) rfl T.c_MOST_NAMES ⟨_, rfl⟩ (fun _ => .int _)) (pda_nil)))))) (pds_cons (pds_expr (pd_call G_p_look_at_names (hr.mono (by decide)) rfl T.g_p_look_at_names T.F_p_look_at_names.kp T.b_p_look_at_names_3 (pda_cons (pd_str) (pda_cons (pd_var 2) (pda_cons (pd_glob (v := .int (6)) rfl T.c_MOST_PLACES ⟨_, rfl⟩ (fun _ => .int _)) (pda_nil)))))) (pds_one (pds_expr (pd_call G_p_look_at_rows (hr.mono (by decide)) rfl T.g_p_look_at_rows T.F_p_look_at_rows.kp T.b_p_look_at_rows_3 (pda_cons (pd_callB call_len cal_len rfl T.n_len (by decide +kernel) (pda_cons (pd_var 1) (pda_nil))) (pda_cons (pd_callB call_len cal_len rfl T.n_len (by decide +kernel) (pda_cons (pd_var 2) (pda_nil))) (pda_cons (pd_var 3) (pda_nil)))))))))))
    sem_p_look_at
def Frsh : MS → MS → Prop
  | [], _ => True
  | q :: L, ms => (∀ e ∈ L ++ ms, e.1 ≠ q.1) ∧ Frsh L ms
theorem frsh_app : ∀ {L M ms : MS}, Frsh L (M ++ ms) → Frsh M ms → Frsh (L ++ M) ms
  | [], _, _, _, h => h
  | q :: L, M, ms, ⟨h1, h2⟩, h => ⟨fun e he => h1 e (by
      have he : e ∈ (L ++ M) ++ ms := he
      rwa [List.append_assoc] at he), frsh_app h2 h⟩
theorem frsh_off {L ms : MS} : Frsh L ms → ∀ q ∈ L, ∀ e ∈ ms, e.1 ≠ q.1 := by
  induction L with
  | nil => intro _ q hq; cases hq
  | cons r L ih =>
    rintro ⟨h1, h2⟩ q hq e he
    rcases List.mem_cons.mp hq with rfl | hq
    · exact h1 e (List.mem_append_right _ he)
    · exact ih h2 q hq e he
theorem look_off : ∀ {L ms : MS} {p : Addr}, (∀ q ∈ L, q.1 ≠ p) → look (L ++ ms) p = look ms p
  | [], _, _, _ => rfl
  | (a, xs) :: L, ms, p, h => by
    show (if a = p then some xs else look (L ++ ms) p) = look ms p
    rw [if_neg (h (a, xs) List.mem_cons_self)]
    exact look_off fun q hq => h q (List.mem_cons_of_mem _ hq)
theorem flatM_app {L ms : MS} (h : flatM L) (k : flatM ms) : flatM (L ++ ms) := fun q hq => (List.mem_append.mp hq).elim (h q) (k q)
theorem frsh_nd : ∀ {L ms : MS}, Frsh L ms → (L.map (·.1)).Nodup
  | [], _, _ => List.nodup_nil
  | q :: L, ms, ⟨h1, h2⟩ => by
    rw [List.map_cons, List.nodup_cons]
    refine ⟨fun z => ?_, frsh_nd h2⟩
    obtain ⟨e, he, z⟩ := List.mem_map.mp z
    exact h1 e (List.mem_append_left _ he) z
theorem frsh_map : ∀ {L M ms : MS}, L.map (·.1) = M.map (·.1) → Frsh M ms → Frsh L ms
  | [], _, _, _, _ => trivial
  | q :: L, [], _, e, _ => by cases e
  | q :: L, r :: M, ms, e, ⟨h1, h2⟩ => by
    rw [List.map_cons, List.map_cons] at e
    injection e with e1 e2
    refine ⟨fun x hx => ?_, frsh_map e2 h2⟩
    rw [e1]
    rcases List.mem_append.mp hx with hx | hx
    · have : x.1 ∈ M.map (·.1) := by rw [← e2]; exact List.mem_map_of_mem hx
      obtain ⟨y, hy, ey⟩ := List.mem_map.mp this
      rw [← ey]
      exact h1 y (List.mem_append_left _ hy)
    · exact h1 x (List.mem_append_right _ hx)
theorem look_in {a : Addr} {ys : List D} : ∀ {L ms : MS}, Frsh L ms → (a, ys) ∈ L → look (L ++ ms) a = some ys
  | [], _, _, h => by cases h
  | (b, xs) :: L, ms, ⟨h1, h2⟩, h => by
    show (if b = a then some xs else look (L ++ ms) a) = some ys
    rcases List.mem_cons.mp h with z | h
    · cases z; rw [if_pos rfl]
    · rw [if_neg fun z => h1 (a, ys) (List.mem_append_left _ h) z.symm]
      exact look_in h2 h
theorem put_adr (a : Addr) (ys : List D) : ∀ M : MS, (put M a ys).map (·.1) = M.map (·.1)
  | [] => rfl
  | (b, xs) :: r => by
    unfold put
    by_cases e : b = a
    · rw [if_pos e]; rw [List.map_cons, List.map_cons, e]
    · rw [if_neg e, List.map_cons, List.map_cons, put_adr a ys r]
theorem put_app {a : Addr} {ys : List D} : ∀ {M ms : MS}, a ∈ M.map (·.1) → put (M ++ ms) a ys = put M a ys ++ ms
  | [], _, h => by cases h
  | (b, xs) :: r, ms, h => by
    show put ((b, xs) :: (r ++ ms)) a ys = _
    unfold put
    by_cases e : b = a
    · rw [if_pos e, if_pos e]; rfl
    · rw [if_neg e, if_neg e]
      rcases List.mem_cons.mp h with z | h
      · exact absurd z.symm e
      · rw [put_app h]; rfl
theorem put_flat {a : Addr} {ys : List D} : ∀ {M : MS}, flatM M → flats ys = true → flatM (put M a ys)
  | [], _, _ => fun _ h => by cases h
  | (b, xs) :: r, h, hy => by
    unfold put
    by_cases e : b = a
    · rw [if_pos e]
      intro q hq
      rcases List.mem_cons.mp hq with rfl | hq
      · exact hy
      · exact h q (List.mem_cons_of_mem _ hq)
    · rw [if_neg e]
      intro q hq
      rcases List.mem_cons.mp hq with rfl | hq
      · exact h _ List.mem_cons_self
      · exact put_flat (fun z hz => h z (List.mem_cons_of_mem _ hz)) hy q hq
theorem flats_app : ∀ {xs ys : List D}, flats xs = true → flats ys = true → flats (xs ++ ys) = true
  | [], _, _, h => h
  | x :: r, ys, h, k => by
    obtain ⟨h1, h2⟩ := Bool.and_eq_true_iff.mp h
    exact Bool.and_eq_true_iff.mpr ⟨h1, flats_app h2 k⟩
theorem flats_all {α : Type} {f : α → D} (h : ∀ x, flat (f x) = true) : ∀ xs : List α, flats (xs.map f) = true
  | [] => rfl
  | x :: r => by
    rw [List.map_cons]
    exact Bool.and_eq_true_iff.mpr ⟨h x, flats_all h r⟩
inductive All2 {α β : Type} (G : α → β → Prop) : List α → List β → Prop
  | nil : All2 G [] []
  | cons {x : α} {y : β} {xs : List α} {ys : List β} : G x y → All2 G xs ys → All2 G (x :: xs) (y :: ys)
theorem flatsI : ∀ is : List Int, flats (is.map D.int) = true := flats_all fun _ => rfl
/-- a comprehension each of whose items is made anew -/
theorem comp_new {α β : Type} {g : DG} {te : DE} {ds : DS} (e : α → D) (f : β → D) (G : α → β → Prop) (J : List β → MS → Prop) : ∀ (xs : List α) (bs : List β) (ms : MS) (P : List D → MS → Prop), bs.length + xs.length ≤ 1000000 → J bs ms →
    (∀ x ∈ xs, ∀ bs ms, J bs ms → ∀ K : D → MS → Prop, (∀ y m', G x y → J (bs ++ [y]) m' → K (f y) m') → g (e x) ds fun ds2 => te ds2 ms K) →
    (∀ (ys : List β) (m' : MS), All2 G xs ys → J (bs ++ ys) m' → P ((bs ++ ys).map f) m') → compD g dYes te ds (xs.map e) (bs.map f) ms P
  | [], bs, ms, P, _, hJ, _, h => by
    have := h [] ms .nil (by rw [List.append_nil]; exact hJ)
    rw [List.append_nil] at this
    exact this
  | x :: r, bs, ms, P, hl, hJ, t, h => by
    rw [List.length_cons] at hl
    rw [List.map_cons]
    unfold compD
    refine t x List.mem_cons_self bs ms hJ (fun y m4 => (bs.map f).length < sizeLine ∧ compD g dYes te ds (r.map e) (bs.map f ++ [y]) m4 P) fun y m' hG hJ' => ?_
    refine ⟨by rw [List.length_map]; exact Nat.lt_of_lt_of_le (by omega : bs.length < 1000001) (by decide), ?_⟩
    rw [show bs.map f ++ [f y] = (bs ++ [y]).map f by rw [List.map_append]; rfl]
    refine comp_new e f G J r (bs ++ [y]) m' P (by rw [List.length_append, List.length_singleton]; omega) hJ' (fun z hz => t z (List.mem_cons_of_mem _ hz)) fun ys m2 at_ j => ?_
    have := h (y :: ys) m2 (.cons hG at_) (by rw [List.append_assoc] at j; exact j)
    rw [List.append_assoc]
    exact this
/-- a wish told anew -/
structure LW where
  w : Wi
  a : Addr
def lwD (x : LW) : D := .tup [wdD x.w.j, .opq (.ref x.a)]
def lwM (x : LW) : Addr × List D := (x.a, x.w.ls.map D.int)
def wsN (bs : List LW) : MS := (bs.map lwM).reverse
def wsM (q : Addr) (bs : List LW) : MS := (q, bs.map lwD) :: wsN bs
theorem wsN_snoc (bs : List LW) (x : LW) : wsN (bs ++ [x]) = lwM x :: wsN bs := by unfold wsN; rw [List.map_append, List.reverse_append]; rfl
theorem fall_map {α β γ : Type} {f : α → γ} {h : β → γ} {G : α → β → Prop} (e : ∀ x y, G x y → h y = f x) : ∀ {xs : List α} {ys : List β}, All2 G xs ys → ys.map h = xs.map f
  | _, _, .nil => rfl
  | _, _, .cons a r => by rw [List.map_cons, List.map_cons, e _ _ a, fall_map e r]
def sp_p_copied_wishes : FS := fun ds ms P => match ds with
  | [.lst ys] => ∃ ws : List Wi, ys = ws.map wiD ∧ ws.length ≤ 1000 ∧ ∀ q bs, bs.map LW.w = ws → Frsh (wsM q bs) ms → P (.opq (.ref q)) (wsM q bs ++ ms)
  | _ => False
theorem len_p_copied_wishes : ∀ ds ms Q, sp_p_copied_wishes ds ms Q → ds.length = 1 := fun ds ms Q h => by
  unfold sp_p_copied_wishes at h
  split at h <;> first | rfl | exact h.elim
def t_p_copied_wishes : DTS := dRet (dLcM (iSeq (dVar 0)) (sTup 2 (sCons (sName 1) (sCons (sName 2) (sNil)))) (dYes) (dTup (aCons (dVar 1) (aCons (dCB cListM (aCons (dVar 2) (aNil))) (aNil)))) [1, 2])
theorem sem_p_copied_wishes : ∀ ds ms Q, sp_p_copied_wishes ds ms Q → t_p_copied_wishes { nx := fun _ m => Q .non m, rt := Q } (startD 3 ds) ms := by
  intro ds ms Q h
  unfold sp_p_copied_wishes at h
  split at h
  · obtain ⟨ws, rfl, hl, h⟩ := h
    simp only [startD]
    unfold t_p_copied_wishes
    walk_at "st"
    simp only [wipeD, List.set]
    refine (show compD _ _ _ _ _ (([] : List LW).map lwD) _ _ from ?_)
    refine comp_new wiD lwD (fun w b => b.w = w) (fun bs m => m = wsN bs ++ ms ∧ Frsh (wsN bs) ms) ws [] _ _ (by rw [List.length_nil]; omega) ⟨rfl, trivial⟩ (fun w hw bs m hJ K hK => ?_) ?_
    · obtain ⟨rfl, fr0⟩ := hJ
      unfold wiD
      walk_at "st"
      intro q hq
      walk_at "st"
      exact hK ⟨w, q⟩ _ rfl ⟨by rw [wsN_snoc]; rfl, by rw [wsN_snoc]; exact ⟨hq, fr0⟩⟩
    intro bs m at_ hJ
    obtain ⟨rfl, fr0⟩ := hJ
    rw [List.nil_append] at fr0 ⊢
    intro q hq
    walk_at "st"
    exact h q bs ((fall_map (h := LW.w) (f := id) (fun _ _ e => e) at_).trans (List.map_id _)) ⟨hq, fr0⟩
  · exact h.elim
theorem ok_p_copied_wishes (T : Tx P K mg) : FnG P w K mg base 1 T.f_p_copied_wishes T.d_p_copied_wishes ["wishes"] (spD K sp_p_copied_wishes) := by
  exact fnG_of (k := 0) (t := t_p_copied_wishes) T.F_p_copied_wishes sc_p_copied_wishes len_p_copied_wishes
    (fun cdv A outer s H hr => pds_one (pds_ret (pd_lcM (own := [("word", 1), ("line", 2)]) rfl sc_p_copied_wishes.nd (pdi_list (pd_var 0)) (blkOk_by (own := [("word", 1), ("line", 2)]) (by kernel_rfl)) (fun _ _ _ _ _ => pg_tup rfl (pgs_cons (pg_name (i := 1) sc_p_copied_wishes.nd rfl (by first | exact .inl rfl | exact .inr rfl)) (pgs_cons (pg_name (i := 2) sc_p_copied_wishes.nd rfl (by first | exact .inl rfl | exact .inr rfl)) (pgs_nil)))) (tg_tup (tgs_cons (tg_name (i := 1) (by decide)) (tgs_cons (tg_name (i := 2) (by decide)) (tgs_nil) (mon_name (i := 2))) (mon_name (i := 1)))) (mon_tup (mon_cons (mon_name (i := 1)) (mon_cons (mon_name (i := 2)) (mon_nil)))) (fun _ _ _ _ _ => pdts_nil) (fun _ _ _ _ _ => pd_tup (pda_cons (pd_var 1) (pda_cons (pd_callTy call_list_of cal_listM rfl T.n_list (by decide +kernel) (pda_cons (pd_var 2) (pda_nil))) (pda_nil)))))))
    sem_p_copied_wishes
/-- a row told anew -/
structure LR where
  s : Int
  t : Int
  a : Addr
  bs : List LW
def LR.rw (x : LR) : Rw := ⟨x.s, x.t, x.bs.map LW.w⟩
def lrD (x : LR) : D := .tup [.int x.s, .int x.t, .opq (.ref x.a)]
def rsN : List LR → MS
  | [] => []
  | x :: r => rsN r ++ wsM x.a x.bs
theorem rsN_snoc : ∀ (xs : List LR) (x : LR), rsN (xs ++ [x]) = wsM x.a x.bs ++ rsN xs
  | [], x => by show [] ++ wsM x.a x.bs = _; rw [List.nil_append]; show _ = _ ++ []; rw [List.append_nil]
  | y :: r, x => by
    show rsN (r ++ [x]) ++ wsM y.a y.bs = _ ++ (rsN r ++ _)
    rw [rsN_snoc r x, List.append_assoc]
def rsM (q : Addr) (xs : List LR) : MS := (q, xs.map lrD) :: rsN xs
theorem lw_flat (x : LW) : flat (lwD x) = true := by
  obtain ⟨⟨j, l, fs⟩, a⟩ := x
  cases j <;> rfl
theorem lr_flat (x : LR) : flat (lrD x) = true := rfl
theorem flats_strs : ∀ xs : List Str, flats (xs.map D.str) = true := flats_all fun _ => rfl
theorem wsM_flat (q : Addr) (bs : List LW) : flatM (wsM q bs) := fun e he => by
  rcases List.mem_cons.mp he with rfl | he
  · exact flats_all lw_flat bs
  · obtain ⟨x, _, rfl⟩ := List.mem_map.mp (List.mem_reverse.mp he)
    exact flatsI _
theorem rsN_flat : ∀ xs : List LR, flatM (rsN xs)
  | [] => fun _ h => by cases h
  | x :: r => flatM_app (rsN_flat r) (wsM_flat _ _)
theorem rsM_flat (q : Addr) (xs : List LR) : flatM (rsM q xs) := fun e he => by
  rcases List.mem_cons.mp he with rfl | he
  · exact flats_all lr_flat xs
  · exact rsN_flat xs e he
theorem rsN_mem {x : LR} : ∀ {xs : List LR}, x ∈ xs → ∀ e ∈ wsM x.a x.bs, e ∈ rsN xs
  | [], h, _, _ => by cases h
  | y :: r, h, e, he => by
    rcases List.mem_cons.mp h with rfl | h
    · exact List.mem_append_right _ he
    · exact List.mem_append_left _ (rsN_mem h e he)
/-- the addresses of a row's lists -/
def adrs (x : LR) : List Addr := x.a :: x.bs.map LW.a
theorem wsM_adr (x : LR) : ((wsM x.a x.bs).map (·.1)).Perm (adrs x) := by
  show (x.a :: (wsN x.bs).map (·.1)).Perm _
  refine List.Perm.cons _ ?_
  unfold wsN
  rw [List.map_reverse, List.map_map]
  exact List.reverse_perm _
theorem rsN_adr : ∀ xs : List LR, ((rsN xs).map (·.1)).Perm (xs.flatMap adrs)
  | [] => .nil
  | x :: r => by
    show ((rsN r ++ wsM x.a x.bs).map (·.1)).Perm (adrs x ++ r.flatMap adrs)
    rw [List.map_append]
    exact ((rsN_adr r).append (wsM_adr x)).trans List.perm_append_comm
/-- a program told anew, each list of it at an address of its own -/
structure PgL (g : Pg) (t : D) (L : MS) (n p q : Addr) (xs : List LR) : Prop where
  is : t = .tup [.opq (.ref n), .opq (.ref p), .opq (.ref q)]
  rs : xs.map LR.rw = g.rs
  mn : (n, g.nm.map D.str) ∈ L
  mp : (p, g.pm.map D.str) ∈ L
  mq : (q, xs.map lrD) ∈ L
  mr : ∀ x ∈ xs, ∀ e ∈ wsM x.a x.bs, e ∈ L
  nd : (n :: p :: q :: xs.flatMap adrs).Nodup
  fl : flatM L
theorem isAts_iff {n : Int} : ∀ {xs : List D}, xs.all (isAt n) = true ↔ ∃ is : List Nat, xs = natL is ∧ ∀ k ∈ is, (k : Int) < n
  | [] => ⟨fun _ => ⟨[], rfl, fun _ h => by cases h⟩, fun _ => rfl⟩
  | x :: r => by
    rw [List.all_cons, Bool.and_eq_true_iff, isAts_iff (xs := r)]
    refine ⟨fun ⟨h, is, e, l⟩ => ?_, fun ⟨is, e, l⟩ => ?_⟩
    · cases x with
      | int i =>
        have h : (decide (0 ≤ i) && decide (i < n)) = true := h
        obtain ⟨h1, h2⟩ := Bool.and_eq_true_iff.mp h
        have h1 := of_decide_eq_true h1
        have h2 := of_decide_eq_true h2
        refine ⟨i.toNat :: is, ?_, fun k hk => ?_⟩
        · show D.int i :: r = D.int (i.toNat : Int) :: natL is
          rw [e, Int.toNat_of_nonneg h1]
        · rcases List.mem_cons.mp hk with rfl | hk
          · omega
          · exact l k hk
      | _ => cases h
    · cases is with
      | nil => cases e
      | cons k is =>
        have e : x :: r = D.int (k : Int) :: natL is := e
        injection e with e1 e2
        subst e1
        refine ⟨?_, is, e2, fun j hj => l j (List.mem_cons_of_mem _ hj)⟩
        show (decide (0 ≤ (k : Int)) && decide ((k : Int) < n)) = true
        rw [decide_eq_true (by omega), decide_eq_true (l k List.mem_cons_self)]; rfl
def natsD (is : List Nat) : D := .lst (natL is)
def Ord (m : Int) (d : D) : Prop := ∃ is : List Nat, d = natsD is ∧ is.Perm (List.range m.toNat)
theorem Ord.lt {n : Nat} {is : List Nat} (h : is.Perm (List.range n)) : ∀ k ∈ is, k < n := fun k hk => List.mem_range.mp (h.mem_iff.mp hk)
theorem Ord.len {n : Nat} {is : List Nat} (h : is.Perm (List.range n)) : is.length = n := by have := h.length_eq; rwa [List.length_range] at this
theorem Ord.any {n : Nat} {is : List Nat} (h : is.Perm (List.range n)) (hl : n ≤ 10) : AnyX 110 (natsD is) := AnyX.mkL (by unfold natL; rw [List.length_map]; have := Ord.len h; omega) fun x hx => by
  obtain ⟨k, hk, rfl⟩ := List.mem_map.mp hx
  have := Ord.lt h k hk
  exact AnyX.int' ((show Bd 4 (k : Int) by unfold Bd; omega).mono (by decide))
theorem natL_ints (is : List Nat) : natL is = (is.map fun (k : Nat) => (k : Int)).map D.int := by unfold natL; rw [List.map_map]; rfl
theorem rng_natW (n : Nat) : rng 0 n = natL (List.range n) := by
  unfold rng natL
  refine List.map_congr_left fun i _ => ?_
  rw [Int.zero_add]
def sx_p_look_at_order : FX := fun ds ms P Z => match ds with
  | [.int m, x] => 0 ≤ m ∧ m ≤ 100 ∧ AnyX 110 x ∧ (¬ Ord m x → Z "NoOrder" [] [] ms) ∧ (Ord m x → P .non ms)
  | _ => False
def sp_p_look_at_order : FS := fun ds ms P => match ds with
  | [.int m, x] => 0 ≤ m ∧ m ≤ 100 ∧ AnyX 110 x ∧ Ord m x ∧ P .non ms
  | _ => False
theorem pl_p_look_at_order : ∀ ds ms P, sp_p_look_at_order ds ms P → sx_p_look_at_order ds ms P fun _ _ _ _ => False := by
  intro ds ms P h
  unfold sp_p_look_at_order at h
  split at h
  · obtain ⟨a, b, c, o, h⟩ := h
    exact ⟨a, b, c, fun z => z o, fun _ => h⟩
  · exact h.elim
theorem len_p_look_at_order : ∀ ds ms Q Z, sx_p_look_at_order ds ms Q Z → ds.length = 2 := fun ds ms Q Z h => by
  unfold sx_p_look_at_order at h
  split at h <;> first | rfl | exact h.elim
def t_p_look_at_order : DTS := dSeq (dIfS (dOr (dNot (dTest (dIsi .list (dVar 1)))) (dNot (dTest (dCB cAll (aCons (dLc (iSeq (dVar 1)) (sName 2) (dYes) (dCall 2 0 [0, 1] sp_p_is_one_of (aCons (dVar 0) (aCons (dVar 2) (aNil))) (aNil)) [2]) (aNil)))))) (dRaise "NoOrder") (dNext)) (dIfS (dTest (dOp fNe (dCB cSorted (aCons (dVar 1) (aNil))) (dListR (dVar 0)))) (dRaise "NoOrder") (dNext))
theorem eqv_intsO : ∀ (ts us : List Int), ∃ ps qs, toPys (ts.map D.int) = some ps ∧ toPys (us.map D.int) = some qs ∧ PyData.eqv (.list ps) (.list qs) = decide (ts = us)
  | [], [] => ⟨[], [], rfl, rfl, rfl⟩
  | [], a :: us => by
    obtain ⟨ps, qs, e1, e2, _⟩ := eqv_intsO [] us
    exact ⟨[], _ :: qs, rfl, by rw [List.map_cons]; unfold toPys; rw [e2]; rfl, rfl⟩
  | a :: ts, [] => by
    obtain ⟨ps, qs, e1, e2, _⟩ := eqv_intsO ts []
    exact ⟨_ :: ps, [], by rw [List.map_cons]; unfold toPys; rw [e1]; rfl, rfl, rfl⟩
  | a :: ts, c :: us => by
    obtain ⟨ps, qs, e1, e2, e3⟩ := eqv_intsO ts us
    refine ⟨.int a :: ps, .int c :: qs, by rw [List.map_cons]; unfold toPys; rw [e1]; rfl, by rw [List.map_cons]; unfold toPys; rw [e2]; rfl, ?_⟩
    have e4 : PyData.eqv (.list (.int a :: ps)) (.list (.int c :: qs)) = ((a == c) && PyData.eqv (.list ps) (.list qs)) := rfl
    rw [e4, e3]
    by_cases h : a = c
    · subst h; simp
    · simp [h]
theorem eq_intsO (ts us : List Int) : eqD (.lst (ts.map D.int)) (.lst (us.map D.int)) = decide (ts = us) := by
  obtain ⟨ps, qs, e1, e2, e3⟩ := eqv_intsO ts us
  rw [← e3]
  unfold eqD toPy
  rw [e1, e2]
  rfl
theorem sh_intsO (ts : List Int) : ShD (.lst (ts.map D.int)) := by
  have go : ∀ ts : List Int, ∃ ps, toPys (ts.map D.int) = some ps ∧ PyData.canLayAll0 ps = true ∧ PyData.depthAll ps ≤ 1 := by
    intro ts
    induction ts with
    | nil => exact ⟨[], rfl, rfl, Nat.zero_le _⟩
    | cons t r ih =>
      obtain ⟨ps, e, h1, h2⟩ := ih
      exact ⟨.int t :: ps, by rw [List.map_cons]; unfold toPys; rw [e]; rfl, by show (_ && PyData.canLayAll0 ps) = true; rw [h1]; rfl, Nat.max_le.mpr ⟨Nat.zero_le _, h2⟩⟩
  obtain ⟨ps, e, h1, h2⟩ := go ts
  refine ⟨.list ps, by unfold toPy; rw [e]; rfl, ?_⟩
  unfold SeqAt.shaped
  rw [show (PyData.list ps).canLay0 = PyData.canLayAll0 ps from rfl, h1, decide_eq_true (show (PyData.list ps).depth ≤ 64 from (show PyData.depthAll ps + 1 ≤ 64 by omega))]
  rfl
theorem w_ne_intsO {ts us : List Int} {ms : MS} {P : D → MS → Prop} (h : P (.bl (!decide (ts = us))) ms) : fNe (.lst (ts.map D.int)) (.lst (us.map D.int)) ms P := by
  cases us with
  | nil =>
    have e : (ts.map D.int).isEmpty = decide (ts = []) := by cases ts <;> rfl
    show P (.bl (!(ts.map D.int).isEmpty)) ms
    rw [e]; exact h
  | cons u us => exact w_ne_lc ⟨sh_intsO ts, sh_intsO (u :: us), by rw [show D.lst (D.int u :: us.map D.int) = .lst ((u :: us).map D.int) from rfl, eq_intsO]; exact h⟩
theorem ord_sort {is : List Nat} {n : Nat} {os : List Int} (p : os.Perm (is.map fun (k : Nat) => (k : Int))) (s : os.Pairwise (· ≤ ·)) : os = ((List.range n).map fun (k : Nat) => (k : Int)) ↔ is.Perm (List.range n) := by
  have inj : ∀ {as bs : List Nat}, (as.map fun (k : Nat) => (k : Int)).Perm (bs.map fun (k : Nat) => (k : Int)) → as.Perm bs := fun {as bs} h => by
    have := h.map Int.toNat
    rw [List.map_map, List.map_map] at this
    have e : (Int.toNat ∘ fun (k : Nat) => (k : Int)) = id := funext fun k => Int.toNat_natCast k
    rw [e, List.map_id, List.map_id] at this
    exact this
  refine ⟨fun e => inj (p.symm.trans (.of_eq e)), fun h => ?_⟩
  refine (p.trans (h.map _)).eq_of_pairwise (le := (· ≤ ·)) (fun a b _ _ h1 h2 => by omega) s ?_
  rw [List.pairwise_map]
  exact (List.pairwise_le_range).imp fun h => by omega
theorem sem_p_look_at_order : ∀ ds ms Q Z, sx_p_look_at_order ds ms Q Z → t_p_look_at_order { nx := fun _ m => Q .non m, rt := Q, ex := fun c ns xs _ m => Z c ns xs m } (startD 3 ds) ms := by
  intro ds ms Q Z h
  unfold sx_p_look_at_order at h
  split at h
  · rename_i m d
    obtain ⟨m0, m1, an, h1, h2⟩ := h
    obtain ⟨a, e⟩ := an.ty
    simp only [startD]
    unfold t_p_look_at_order
    walk_at "st"
    cases d with
    | lst xs =>
      obtain ⟨hl, ok⟩ := an.lst
      walk_at "st"
      simp only [wipeD, List.set]
      refine comp_pure (fun x => .bl (isAt m x)) xs [] _ (by simp; omega) (fun x hx P0 q => ?_) ?_
      · walk_at "st"
        exact ⟨(ok x hx).ty, q⟩
      rw [List.nil_append]
      walk_at "st"
      refine w_all (bls_map (isAt m) xs) ?_
      rw [all_id]
      cases ha : xs.all (isAt m) with
      | false =>
        walk_at "st"
        refine h1 fun ⟨is, e1, l⟩ => ?_
        injection e1 with e1
        have : xs.all (isAt m) = true := isAts_iff.mpr ⟨is, e1, fun k hk => by have := Ord.lt l k hk; omega⟩
        rw [this] at ha; cases ha
      | true =>
        obtain ⟨is, rfl, l⟩ := isAts_iff.mp ha
        walk_at "st"
        refine CbG.out (w_sorted (ns := is.map fun (k : Nat) => (k : Int)) (by show some (natL is) = _; rw [natL_ints]) fun os p s => ?_)
        walk_at "st"
        refine w_mListR ⟨by omega, by omega⟩ ?_
        rw [rng_natW, natL_ints]
        walk_at "st"
        refine OpG.out (w_ne_intsO ?_)
        cases hd : decide (os = ((List.range m.toNat).map fun (k : Nat) => (k : Int))) with
        | false =>
          have hd := of_decide_eq_false hd
          walk_at "st"
          refine h1 fun ⟨js, e1, pj⟩ => hd ((ord_sort p s).mpr ?_)
          unfold natsD at e1
          injection e1 with e1
          rw [natL_inj e1]; exact pj
        | true =>
          have hd := of_decide_eq_true hd
          walk_at "st"
          exact h2 ⟨is, rfl, (ord_sort p s).mp hd⟩
    | _ => cases e <;> (walk_at "st"; exact h1 fun ⟨_, e1, _⟩ => by cases e1)
  · exact h.elim
theorem okx_p_look_at_order (T : Tx P K mg) : FnX P w K mg base 3 T.f_p_look_at_order T.d_p_look_at_order ["many", "thing"] (spX K sx_p_look_at_order) := by
  have G_p_is_one_of := ok_p_is_one_of (P := P) (w := w) (base := base) T
  exact fnX_of (k := 2) (t := t_p_look_at_order) T.F_p_look_at_order sc_p_look_at_order len_p_look_at_order
    (fun cdv A outer s H E hr W tk => px_cons (px_if (pdt_w (pdw_or (pdt_not (pdt_val (pd_isi .list (by decide) rfl T.n_isinstance rfl T.n_list (by decide +kernel) (by decide) (by decide) (pd_var 1)))) (pdw_or1 (pdt_not (pdt_val (pd_callB (cr_all rfl) cal_all rfl T.n_all (by decide +kernel) (pda_cons (pd_lc (own := [("at", 2)]) rfl sc_p_look_at_order.nd (pdi_list (pd_var 1)) (blkOk_by (own := [("at", 2)]) (by kernel_rfl)) (fun _ _ _ _ _ => pg_name (i := 2) sc_p_look_at_order.nd rfl (by first | exact .inl rfl | exact .inr rfl)) (tg_name (i := 2) (by decide)) (mon_name (i := 2)) (fun _ _ _ _ _ => pdts_nil) (fun _ _ _ _ _ => pd_call G_p_is_one_of (hr.mono (by decide)) rfl T.g_p_is_one_of T.F_p_is_one_of.kp T.b_p_is_one_of_2 (pda_cons (pd_var 0) (pda_cons (pd_var 2) (pda_nil))))) (pda_nil)))))))) (px_one (px_raiseF rfl tk PySem.F.excBase_ValueError T.q_NoOrder T.gx_NoOrder rfl)) (px_nil)) (px_one (px_if (pdt_cmp (op_neF hr.r.units) opd_ne (pd_callB cr_sortedI cal_sorted rfl T.n_sorted (by decide +kernel) (pda_cons (pd_var 1) (pda_nil))) (pd_listR rfl rfl T.n_list rfl T.n_range (pd_var 0))) (px_one (px_raiseF rfl tk PySem.F.excBase_ValueError T.q_NoOrder T.gx_NoOrder rfl)) (px_nil))))
    sem_p_look_at_order
theorem ok_p_look_at_order (T : Tx P K mg) : FnG P w K mg base 3 T.f_p_look_at_order T.d_p_look_at_order ["many", "thing"] (spD K sp_p_look_at_order) := (okx_p_look_at_order T).plain pl_p_look_at_order
/-- things put where the order tells -/
def putL {α : Type} : List (Nat × α) → List α → List α
  | [], xs => xs
  | p :: r, xs => putL r (xs.set p.1 p.2)
def movL {α : Type} (is : List Nat) (xs : List α) : List α := putL (is.zip xs) xs
section
variable {α β : Type}
theorem putL_len : ∀ (ps : List (Nat × α)) (xs : List α), (putL ps xs).length = xs.length
  | [], _ => rfl
  | p :: r, xs => by show (putL r _).length = _; rw [putL_len r, List.length_set]
theorem movL_len (is : List Nat) (xs : List α) : (movL is xs).length = xs.length := putL_len _ _
theorem putL_snoc : ∀ (ps : List (Nat × α)) (p : Nat × α) (xs : List α), putL (ps ++ [p]) xs = (putL ps xs).set p.1 p.2
  | [], _, _ => rfl
  | _ :: r, p, xs => putL_snoc r p _
theorem putL_map (f : α → β) : ∀ (ps : List (Nat × α)) (xs : List α), (putL ps xs).map f = putL (ps.map fun p => (p.1, f p.2)) (xs.map f)
  | [], _ => rfl
  | p :: r, xs => by
    show (putL r _).map f = putL (r.map _) ((xs.map f).set p.1 (f p.2))
    rw [putL_map f r, List.map_set]
theorem movL_map (f : α → β) (is : List Nat) (xs : List α) : (movL is xs).map f = movL is (xs.map f) := by
  unfold movL
  rw [putL_map, List.zip_map_right]
  rfl
theorem putL_off {k : Nat} : ∀ {ps : List (Nat × α)} {xs : List α}, k ∉ ps.map (·.1) → (putL ps xs)[k]? = xs[k]?
  | [], _, _ => rfl
  | p :: r, xs, h => by
    rw [List.map_cons, List.mem_cons, not_or] at h
    show (putL r _)[k]? = _
    rw [putL_off h.2, List.getElem?_set_ne (fun z => h.1 z.symm)]
theorem putL_in {k : Nat} {v : α} : ∀ {ps : List (Nat × α)} {xs : List α}, (ps.map (·.1)).Nodup → (k, v) ∈ ps → k < xs.length → (putL ps xs)[k]? = some v
  | [], _, _, h, _ => by cases h
  | p :: r, xs, nd, h, hk => by
    rw [List.map_cons, List.nodup_cons] at nd
    show (putL r _)[k]? = _
    rcases List.mem_cons.mp h with rfl | h
    · rw [putL_off nd.1, List.getElem?_set_self hk]
    · exact putL_in nd.2 h (by rw [List.length_set]; exact hk)
theorem movL_at {is : List Nat} {xs : List α} (h : is.Perm (List.range xs.length)) {i k : Nat} (hi : is[i]? = some k) : (movL is xs)[k]? = xs[i]? := by
  have hl := Ord.len h
  have hil : i < is.length := by
    by_cases z : i < is.length
    · exact z
    · rw [List.getElem?_eq_none (by omega)] at hi; cases hi
  have hk := Ord.lt h k (List.mem_of_getElem? hi)
  have ex : xs[i]? = some xs[i] := List.getElem?_eq_getElem (by omega)
  rw [ex]
  refine putL_in ?_ ?_ hk
  · rw [List.map_fst_zip (by omega)]
    exact h.nodup_iff.mpr List.nodup_range
  · refine List.mem_of_getElem? (i := i) ?_
    rw [List.getElem?_zip_eq_some]
    exact ⟨hi, ex⟩
theorem range_at {xs : List α} : (List.range xs.length).map (fun k => xs[k]?) = xs.map some := by
  refine List.ext_getElem? fun i => ?_
  rw [List.getElem?_map, List.getElem?_map]
  by_cases h : i < xs.length
  · rw [List.getElem?_range h, List.getElem?_eq_getElem h]; simp [h]
  · rw [List.getElem?_eq_none (by rw [List.length_range]; omega), List.getElem?_eq_none (by omega)]; rfl
theorem movL_perm {is : List Nat} {xs : List α} (h : is.Perm (List.range xs.length)) : (movL is xs).Perm xs := by
  have e1 : is.map (fun k => (movL is xs)[k]?) = xs.map some := by
    refine List.ext_getElem? fun i => ?_
    rw [List.getElem?_map, List.getElem?_map]
    cases e : is[i]? with
    | none =>
      have : is.length ≤ i := List.getElem?_eq_none_iff.mp e
      rw [List.getElem?_eq_none (by have := Ord.len h; omega)]; rfl
    | some k =>
      have hil : i < is.length := by
        by_cases z : i < is.length
        · exact z
        · rw [List.getElem?_eq_none (by omega)] at e; cases e
      show some ((movL is xs)[k]?) = _
      rw [movL_at h e, List.getElem?_eq_getElem (by have := Ord.len h; omega)]; rfl
  have e2 : ((List.range xs.length).map fun k => (movL is xs)[k]?) = (movL is xs).map some := by
    have := range_at (xs := movL is xs)
    rwa [movL_len] at this
  have p : ((movL is xs).map some).Perm (xs.map some) := by
    rw [← e1, ← e2]
    exact h.symm.map _
  have := p.filterMap id
  rw [List.filterMap_map, List.filterMap_map] at this
  have e3 : (id ∘ some : α → Option α) = some := rfl
  rw [e3, List.filterMap_some, List.filterMap_some] at this
  exact this
end
theorem loop_lW {α : Type} {g : DG} {tb : DTS} {E : EN} (e : α → D) (all : List α) (I : List α → DS → MS → Prop) : ∀ (xs pre : List α) (ds : DS) (ms : MS), pre ++ xs = all → I pre ds ms →
    (∀ pre x rest ds ms, pre ++ x :: rest = all → I pre ds ms → ∀ N : DS → MS → Prop, (∀ ds' ms', I (pre ++ [x]) ds' ms' → N ds' ms') → g (e x) ds fun ds1 => tb (EN.lp E N) ds1 ms) →
    (∀ ds ms, I all ds ms → E.nx ds ms) → loopD g tb E (xs.map e) ds ms
  | [], pre, ds, ms, ha, h, _, q => q ds ms (by rw [List.append_nil] at ha; rw [← ha]; exact h)
  | x :: r, pre, ds, ms, ha, h, t, q => t pre x r ds ms ha h _ fun ds' ms' h' => loop_lW e all I r (pre ++ [x]) ds' ms' (by rw [List.append_assoc]; exact ha) h' t q
theorem ixN_natO {n k : Nat} (h : k < n) : ixN n (k : Int) = some k := by
  unfold ixN
  simp [h]
def sp_p_moved : FS := fun ds ms P => match ds with
  | [.lst xs, .lst ys] => ∃ is : List Nat, ys = natL is ∧ is.Perm (List.range xs.length) ∧ xs.length ≤ 1000 ∧ ∀ q, (∀ e ∈ ms, e.1 ≠ q) → P (.opq (.ref q)) ((q, movL is xs) :: ms)
  | _ => False
theorem len_p_moved : ∀ ds ms Q, sp_p_moved ds ms Q → ds.length = 2 := fun ds ms Q h => by
  unfold sp_p_moved at h
  split at h <;> first | rfl | exact h.elim
def t_p_moved : DTS := dSeq (dAsg (dCB cListM (aCons (dVar 0) (aNil))) (sName 2)) (dSeq (dFor (iZipD (aCons (dVar 1) (aCons (dVar 0) (aNil)))) (sTup 2 (sCons (sName 3) (sCons (sName 4) (sNil)))) (dSetIx (dVar 2) (dVar 3) (dVar 4))) (dRet (dVar 2)))
theorem sem_p_moved : ∀ ds ms Q, sp_p_moved ds ms Q → t_p_moved { nx := fun _ m => Q .non m, rt := Q } (startD 5 ds) ms := by
  intro ds ms Q h
  unfold sp_p_moved at h
  split at h
  · rename_i xs ys
    obtain ⟨is, rfl, hp, hl, h⟩ := h
    simp only [startD]
    unfold t_p_moved
    walk_at "st"
    intro q hq
    walk_at "st"
    unfold natL
    rw [zipD_m1]
    refine loop_lW (fun p : Nat × D => D.tup [.int (p.1 : Int), p.2]) (is.zip xs) (fun pre ds m => m = (q, putL pre xs) :: ms ∧ ∃ x3 x4, ds = [some (.lst xs), some (.lst (is.map fun (k : Nat) => D.int (k : Int))), some (.opq (.ref q)), x3, x4]) (is.zip xs) [] _ _ rfl ⟨rfl, _, _, rfl⟩ ?_ ?_
    · rintro pre ⟨k, v⟩ rest ds m hs ⟨rfl, y3, y4, rfl⟩ N hN
      have hk : k < xs.length := Ord.lt hp k (List.of_mem_zip (b := v) (by rw [← hs]; simp)).1
      walk_at "st"
      refine w_mSetIx (j := k) look_new (ixN_natO (by rw [putL_len]; exact hk)) put_new ?_
      walk_at "st"
      exact hN _ _ ⟨by rw [putL_snoc], _, _, rfl⟩
    · rintro ds m ⟨rfl, y3, y4, rfl⟩
      walk_at "st"
      exact h q hq
  · exact h.elim
theorem ok_p_moved (T : Tx P K mg) : FnG P w K mg base 1 T.f_p_moved T.d_p_moved ["things", "order"] (spD K sp_p_moved) := by
  exact fnG_of (k := 0) (t := t_p_moved) T.F_p_moved sc_p_moved len_p_moved
    (fun cdv A outer s H hr => pds_cons (pds_set (i := 2) sc_p_moved.nd rfl (.inl rfl) (pd_callTy call_list_of cal_listM rfl T.n_list (by decide +kernel) (pda_cons (pd_var 0) (pda_nil)))) (pds_cons (pds_for (vs := [3, 4]) rfl (pdi_zip rfl T.n_zip (pda_cons (pd_var 1) (pda_cons (pd_var 0) (pda_nil)))) (pg_tup rfl (pgs_cons (pg_name (i := 3) sc_p_moved.nd rfl (.inl rfl)) (pgs_cons (pg_name (i := 4) sc_p_moved.nd rfl (.inl rfl)) (pgs_nil)))) (tg_tup (tgs_cons (tg_name (i := 3) (by decide)) (tgs_cons (tg_name (i := 4) (by decide)) (tgs_nil) (mon_name (i := 4))) (mon_name (i := 3)))) (pds_one (pds_setIx (pd_var 4) (pd_var 2) (pd_var 3)))) (pds_one (pds_ret (pd_var 2)))))
    sem_p_moved
def sp_p_line_moved : FS := fun ds ms P => match ds with
  | [.lst xs, .lst ys] => ∃ (is : List Nat) (c : Int) (as bs : List Int), xs = (c :: (as ++ bs)).map D.int ∧ ys = natL is ∧ is.Perm (List.range is.length) ∧ as.length = is.length ∧ bs.length = is.length ∧ is.length ≤ 100 ∧
      ∀ q, (∀ e ∈ ms, e.1 ≠ q) → P (.opq (.ref q)) ((q, (c :: (movL is as ++ movL is bs)).map D.int) :: ms)
  | _ => False
theorem len_p_line_moved : ∀ ds ms Q, sp_p_line_moved ds ms Q → ds.length = 2 := fun ds ms Q h => by
  unfold sp_p_line_moved at h
  split at h <;> first | rfl | exact h.elim
def t_p_line_moved : DTS := dSeq (dAsg (dCB cLen (aCons (dVar 1) (aNil))) (sName 2)) (dRet (dOp fAddL (dOp fAdd (dSl (dVar 0) (oNone) (oSome (dC (.int 1)))) (dFrz (dCall 2 0 [0, 1] sp_p_moved (aCons (dSl (dVar 0) (oSome (dC (.int 1))) (oSome (dOp fAdd (dVar 2) (dC (.int 1))))) (aCons (dVar 1) (aNil))) (aNil)))) (dFrz (dCall 2 0 [0, 1] sp_p_moved (aCons (dSl (dVar 0) (oSome (dOp fAdd (dVar 2) (dC (.int 1)))) (oNone)) (aCons (dVar 1) (aNil))) (aNil)))))
theorem sem_p_line_moved : ∀ ds ms Q, sp_p_line_moved ds ms Q → t_p_line_moved { nx := fun _ m => Q .non m, rt := Q } (startD 3 ds) ms := by
  intro ds ms Q h
  unfold sp_p_line_moved at h
  split at h
  · rename_i xs ys
    obtain ⟨is, c, as, bs, rfl, rfl, hp, la, lb, hl, h⟩ := h
    simp only [startD]
    unfold t_p_line_moved
    walk_at "st"
    have ln : (natL is).length = is.length := List.length_map ..
    have e1 : cutL (List.map D.int (c :: (as ++ bs))) (some 1) (some ((is.length : Int) + 1)) = as.map D.int := by
      rw [cutL_mid _ _ _ (by decide) (by omega), List.map_cons]
      show (((as ++ bs).map D.int)).take _ = _
      rw [show ((is.length : Int) + 1 - 1).toNat = (as.map D.int).length by rw [List.length_map]; omega, List.map_append, List.take_left]
    have e2 : cutL (List.map D.int (c :: (as ++ bs))) (some ((is.length : Int) + 1)) none = bs.map D.int := by
      rw [cutL_from _ _ (by omega), show ((is.length : Int) + 1).toNat = (as.map D.int).length + 1 by rw [List.length_map]; omega, List.map_cons, List.drop_succ_cons, List.map_append, List.drop_left]
    have e3 : cutL (List.map D.int (c :: (as ++ bs))) none (some 1) = [.int c] := by
      rw [cutL_to _ _ (by decide)]; rfl
    rw [ln, e1]
    refine ⟨is, rfl, by rw [List.length_map, la]; exact hp, by rw [List.length_map]; omega, fun q hq => ?_⟩
    walk_at "st"
    rw [e3, ← movL_map]
    refine ⟨size_ok (by rw [List.length_singleton, List.length_map, movL_len]; omega), ?_⟩
    walk_at "st"
    rw [e2]
    refine ⟨is, rfl, by rw [List.length_map, lb]; exact hp, by rw [List.length_map]; omega, fun q hq => ?_⟩
    walk_at "st"
    rw [← movL_map]
    refine ⟨_, _, rfl, rfl, size_ok (by rw [List.length_append, List.length_singleton, List.length_map, movL_len, List.length_map, movL_len]; omega), fun q2 hq2 => ?_⟩
    walk_at "st"
    have := h q2 hq2
    rw [List.map_cons, List.map_append] at this
    exact this
  · exact h.elim
theorem ok_p_line_moved (T : Tx P K mg) : FnG P w K mg base 2 T.f_p_line_moved T.d_p_line_moved ["line", "order"] (spD K sp_p_line_moved) := by
  have G_p_moved := ok_p_moved (P := P) (w := w) (base := base) T
  exact fnG_of (k := 1) (t := t_p_line_moved) T.F_p_line_moved sc_p_line_moved len_p_line_moved
    (fun cdv A outer s H hr => pds_cons (pds_set (i := 2) sc_p_line_moved.nd rfl (.inl rfl) (pd_callB call_len cal_len rfl T.n_len (by decide +kernel) (pda_cons (pd_var 1) (pda_nil)))) (pds_one (pds_ret (pd_op op_addD opd_addL (pd_op op_addD opd_add (pd_slice (pd_var 0) (pdo_none) (pdo_some (pd_int))) (pd_frz (pd_call G_p_moved (hr.mono (by decide)) rfl T.g_p_moved T.F_p_moved.kp T.b_p_moved_2 (pda_cons (pd_slice (pd_var 0) (pdo_some (pd_int)) (pdo_some (pd_op op_addD opd_add (pd_var 2) (pd_int)))) (pda_cons (pd_var 1) (pda_nil)))))) (pd_frz (pd_call G_p_moved (hr.mono (by decide)) rfl T.g_p_moved T.F_p_moved.kp T.b_p_moved_2 (pda_cons (pd_slice (pd_var 0) (pdo_some (pd_op op_addD opd_add (pd_var 2) (pd_int))) (pdo_none)) (pda_cons (pd_var 1) (pda_nil)))))))))
    sem_p_line_moved
def placesG (is : List Nat) (g : Pg) : Pg := ⟨g.nm, movL is g.pm, g.rs.map fun r => ⟨((is.getD r.s.toNat 0 : Nat) : Int), ((is.getD r.t.toNat 0 : Nat) : Int), r.ws⟩⟩
theorem nmok_mov {m : Nat} {is : List Nat} {xs : List Str} (ok : NmOk m xs) (h : is.Perm (List.range xs.length)) : NmOk m (movL is xs) := by
  have p := movL_perm h
  exact ⟨by rw [movL_len]; exact ok.l1, by rw [movL_len]; exact ok.l2, p.nodup_iff.mpr ok.nd, fun x hx => ok.ok x (p.mem_iff.mp hx)⟩
theorem placesG_ok {B : Nat} {is : List Nat} {g : Pg} (ok : PgOk B g) (h : is.Perm (List.range g.pm.length)) : PgOk B (placesG is g) := by
  refine ⟨ok.nm, nmok_mov ok.pm h, by show (List.map _ g.rs).length ≤ 10; rw [List.length_map]; exact ok.rl, fun r hr => ?_⟩
  obtain ⟨r0, hr0, rfl⟩ := List.mem_map.mp hr
  have o := ok.ro r0 hr0
  have lt : ∀ i : Int, 0 ≤ i → i < g.pm.length → ((is.getD i.toNat 0 : Nat) : Int) < ((movL is g.pm).length : Nat) := fun i h0 h1 => by
    have hi : i.toNat < is.length := by rw [Ord.len h]; omega
    rw [movL_len, List.getD_eq_getElem?_getD, List.getElem?_eq_getElem hi]
    have := Ord.lt h _ (List.getElem_mem hi)
    show ((is[i.toNat] : Nat) : Int) < _
    omega
  exact ⟨Int.natCast_nonneg _, lt _ o.s0 o.s1, Int.natCast_nonneg _, lt _ o.t0 o.t1, o.wl, o.wo⟩
theorem pgl_mkO {g : Pg} {a b n p q : Addr} {xs : List LR} {u v : List D} {ms : MS} (e : xs.map LR.rw = g.rs) (f : Frsh (rsM q xs) ms) (h1 : ∀ e ∈ rsM q xs ++ ms, e.1 ≠ a) (h2 : ∀ e ∈ (a, u) :: (rsM q xs ++ ms), e.1 ≠ b)
    (hab : a = n ∧ b = p ∧ u = g.nm.map D.str ∧ v = g.pm.map D.str) :
    PgL g (.tup [.opq (.ref n), .opq (.ref p), .opq (.ref q)]) ((b, v) :: (a, u) :: rsM q xs) n p q xs ∧ Frsh ((b, v) :: (a, u) :: rsM q xs) ms := by
  obtain ⟨rfl, rfl, rfl, rfl⟩ := hab
  have ff : Frsh ((b, g.pm.map D.str) :: (a, g.nm.map D.str) :: rsM q xs) ms := ⟨h2, h1, f⟩
  refine ⟨⟨rfl, e, List.mem_cons_of_mem _ List.mem_cons_self, List.mem_cons_self, List.mem_cons_of_mem _ (List.mem_cons_of_mem _ List.mem_cons_self), fun x hx e he => List.mem_cons_of_mem _ (List.mem_cons_of_mem _ (List.mem_cons_of_mem _ (rsN_mem hx e he))), ?_, ?_⟩, ff⟩
  · refine List.Perm.nodup_iff ?_ |>.mp (frsh_nd ff)
    show (b :: a :: q :: (rsN xs).map (·.1)).Perm _
    refine (List.Perm.swap a b _).trans ?_
    exact .cons _ (.cons _ (.cons _ (rsN_adr xs)))
  · intro e he
    rcases List.mem_cons.mp he with rfl | he
    · exact flats_strs _
    rcases List.mem_cons.mp he with rfl | he
    · exact flats_strs _
    · exact rsM_flat q xs e he
def sx_p_places_ordered : FX := fun ds ms P Z => match ds with
  | [d, x] => ∃ (g : Pg) (B : Nat), d = pgD g ∧ PgOk B g ∧ AnyX 110 x ∧ (¬ Ord g.pm.length x → Z "NoOrder" [] [] ms) ∧
      ∀ is : List Nat, x = natsD is → is.Perm (List.range g.pm.length) → ∀ t L n p q xs, PgL (placesG is g) t L n p q xs → Frsh L ms → P t (L ++ ms)
  | _ => False
def sp_p_places_ordered : FS := fun ds ms P => match ds with
  | [d, x] => ∃ (g : Pg) (is : List Nat) (B : Nat), d = pgD g ∧ x = natsD is ∧ PgOk B g ∧ is.Perm (List.range g.pm.length) ∧ ∀ t L n p q xs, PgL (placesG is g) t L n p q xs → Frsh L ms → P t (L ++ ms)
  | _ => False
theorem natsD_inj {is js : List Nat} (e : natsD is = natsD js) : is = js := by
  unfold natsD at e
  injection e with e
  exact natL_inj e
theorem pl_p_places_ordered : ∀ ds ms P, sp_p_places_ordered ds ms P → sx_p_places_ordered ds ms P fun _ _ _ _ => False := by
  intro ds ms P h
  unfold sp_p_places_ordered at h
  split at h
  · obtain ⟨g, is, B, rfl, rfl, ok, hp, h⟩ := h
    exact ⟨g, B, rfl, ok, Ord.any hp (by have := ok.pm.l2; omega), fun z => z ⟨is, rfl, hp⟩, fun js e _ => natsD_inj e ▸ h⟩
  · exact h.elim
theorem ord_of {n : Nat} {x : D} (h : Ord (n : Int) x) : ∃ is : List Nat, x = natsD is ∧ is.Perm (List.range n) := by
  obtain ⟨is, e, p⟩ := h
  exact ⟨is, e, p⟩
theorem at_natL {is : List Nat} {i : Int} (h0 : 0 ≤ i) (h1 : i < is.length) : atI (natL is) i = some (.int ((is.getD i.toNat 0 : Nat) : Int)) := by
  obtain ⟨j, rfl⟩ : ∃ j : Nat, i = (j : Int) := ⟨i.toNat, by omega⟩
  refine atI_nat ?_
  unfold natL
  rw [List.getElem?_map, List.getD_eq_getElem?_getD, Int.toNat_natCast, List.getElem?_eq_getElem (by omega)]
  rfl
theorem len_p_places_ordered : ∀ ds ms Q Z, sx_p_places_ordered ds ms Q Z → ds.length = 2 := fun ds ms Q Z h => by
  unfold sx_p_places_ordered at h
  split at h <;> first | rfl | exact h.elim
def t_p_places_ordered : DTS := dSeq (dDrop (dCall 1 0 [0] sp_p_look_at (aCons (dVar 0) (aNil)) (aNil))) (dSeq (dAsg (dVar 0) (sTup 3 (sCons (sName 2) (sCons (sName 3) (sCons (sName 4) (sNil)))))) (dSeq (dExprZ (fun Z => dCallZ 2 0 [0, 1] sx_p_look_at_order (aCons (dCB cLen (aCons (dVar 3) (aNil))) (aCons (dVar 1) (aNil))) (aNil) Z)) (dSeq (dAsg (dLcM (iSeq (dVar 4)) (sTup 3 (sCons (sName 6) (sCons (sName 7) (sCons (sName 8) (sNil))))) (dYes) (dTup (aCons (dOp fIx (dVar 1) (dVar 6)) (aCons (dOp fIx (dVar 1) (dVar 7)) (aCons (dCall 1 0 [0] sp_p_copied_wishes (aCons (dVar 8) (aNil)) (aNil)) (aNil))))) [6, 7, 8]) (sName 5)) (dRet (dTup (aCons (dCB cListM (aCons (dVar 2) (aNil))) (aCons (dCall 2 0 [0, 1] sp_p_moved (aCons (dVar 3) (aCons (dVar 1) (aNil))) (aNil)) (aCons (dVar 5) (aNil)))))))))
theorem sem_p_places_ordered : ∀ ds ms Q Z, sx_p_places_ordered ds ms Q Z → t_p_places_ordered { nx := fun _ m => Q .non m, rt := Q, ex := fun c ns xs _ m => Z c ns xs m } (startD 9 ds) ms := by
  intro ds ms Q Z h
  unfold sx_p_places_ordered at h
  split at h
  · rename_i d x
    obtain ⟨g, B, rfl, ok, an, h1, h2⟩ := h
    have rl := ok.rl
    simp only [startD]
    unfold t_p_places_ordered
    walk_at "st"
    refine ⟨g, B, rfl, ok, ?_⟩
    unfold pgD
    walk_at "st"
    rw [List.length_map]
    have pl := ok.pm.l2
    refine ⟨by omega, by omega, an, fun z => h1 z, fun z => ?_⟩
    obtain ⟨is, rfl, hp⟩ := ord_of z
    have il := Ord.len hp
    walk_at "st"
    simp only [wipeD, List.set]
    refine (show compD _ _ _ _ _ (([] : List LR).map lrD) _ _ from ?_)
    refine comp_new rwD lrD (fun r x => x.rw = ⟨((is.getD r.s.toNat 0 : Nat) : Int), ((is.getD r.t.toNat 0 : Nat) : Int), r.ws⟩) (fun xs m => m = rsN xs ++ ms ∧ Frsh (rsN xs) ms) g.rs [] _ _ (by rw [List.length_nil]; omega) ⟨rfl, trivial⟩ (fun r hr xs m hJ K hK => ?_) ?_
    · obtain ⟨rfl, fr0⟩ := hJ
      have o := ok.ro r hr
      have o1 := o.s0
      have o2 := o.s1
      have o3 := o.t0
      have o4 := o.t1
      unfold rwD natsD
      walk_at "st"
      refine w_ix_l (at_natL o1 (by omega)) ?_
      walk_at "st"
      refine w_ix_l (at_natL o3 (by omega)) ?_
      walk_at "st"
      refine ⟨r.ws, rfl, by have := o.wl; omega, fun q bs e fr1 => ?_⟩
      walk_at "st"
      exact hK ⟨((is.getD r.s.toNat 0 : Nat) : Int), ((is.getD r.t.toNat 0 : Nat) : Int), q, bs⟩ _ (by unfold LR.rw; rw [e]) ⟨by rw [rsN_snoc, List.append_assoc], by rw [rsN_snoc]; exact frsh_app fr1 fr0⟩
    intro xs m at_ hJ
    obtain ⟨rfl, fr0⟩ := hJ
    rw [List.nil_append] at fr0 ⊢
    intro q hq
    unfold natsD
    walk_at "st"
    intro n hn
    walk_at "st"
    refine ⟨is, rfl, by rw [List.length_map]; exact hp, by rw [List.length_map]; omega, fun p hp' => ?_⟩
    walk_at "st"
    have hh := pgl_mkO (g := placesG is g) (a := n) (b := p) (n := n) (p := p) (q := q) (xs := xs) (u := g.nm.map D.str) (v := movL is (g.pm.map D.str)) (ms := ms) (by
      show _ = List.map _ g.rs
      exact fall_map (h := LR.rw) (f := fun r : Rw => (⟨((is.getD r.s.toNat 0 : Nat) : Int), ((is.getD r.t.toNat 0 : Nat) : Int), r.ws⟩ : Rw)) (fun _ _ e => e) at_) ⟨hq, fr0⟩ hn hp' ⟨rfl, rfl, rfl, (movL_map _ _ _).symm⟩
    exact h2 is rfl hp _ _ n p q xs hh.1 hh.2
  · exact h.elim
theorem okx_p_places_ordered (T : Tx P K mg) : FnX P w K mg base 9 T.f_p_places_ordered T.d_p_places_ordered ["program", "order"] (spX K sx_p_places_ordered) := by
  have G_p_look_at := ok_p_look_at (P := P) (w := w) (base := base) T
  have G_p_look_at_order := ok_p_look_at_order (P := P) (w := w) (base := base) T
  have G_p_moved := ok_p_moved (P := P) (w := w) (base := base) T
  have G_p_copied_wishes := ok_p_copied_wishes (P := P) (w := w) (base := base) T
  have X_p_look_at_order := okx_p_look_at_order (P := P) (w := w) (base := base) T
  exact fnX_of (k := 8) (t := t_p_places_ordered) T.F_p_places_ordered sc_p_places_ordered len_p_places_ordered
    (fun cdv A outer s H E hr W tk => px_cons (px_of (pds_expr (pd_call G_p_look_at (hr.mono (by decide)) rfl T.g_p_look_at T.F_p_look_at.kp T.b_p_look_at_1 (pda_cons (pd_var 0) (pda_nil))))) (px_cons (px_of (pds_asg (vs := [2, 3, 4]) (pd_var 0) (pg_tup rfl (pgs_cons (pg_name (i := 2) sc_p_places_ordered.nd rfl (.inl rfl)) (pgs_cons (pg_name (i := 3) sc_p_places_ordered.nd rfl (.inl rfl)) (pgs_cons (pg_name (i := 4) sc_p_places_ordered.nd rfl (.inl rfl)) (pgs_nil))))) (tg_tup (tgs_cons (tg_name (i := 2) (by decide)) (tgs_cons (tg_name (i := 3) (by decide)) (tgs_cons (tg_name (i := 4) (by decide)) (tgs_nil) (mon_name (i := 4))) (mon_name (i := 3))) (mon_name (i := 2)))))) (px_cons (px_exprZ (fun Z => pdz_call tk X_p_look_at_order (hr.mono (by decide)) rfl T.g_p_look_at_order T.F_p_look_at_order.kp T.b_p_look_at_order_2 (pda_cons (pd_callB call_len cal_len rfl T.n_len (by decide +kernel) (pda_cons (pd_var 3) (pda_nil))) (pda_cons (pd_var 1) (pda_nil))))) (px_cons (px_of (pds_setLcM (i := 5) (own := [("start", 6), ("to", 7), ("wishes", 8)]) rfl sc_p_places_ordered.nd rfl rfl (sw_true rfl rfl rfl (by decide +kernel)) (pdi_list (pd_var 4)) (blkOk_by (own := [("start", 6), ("to", 7), ("wishes", 8)]) (by kernel_rfl)) (fun _ _ _ _ _ => pg_tup rfl (pgs_cons (pg_name (i := 6) sc_p_places_ordered.nd rfl (by first | exact .inl rfl | exact .inr rfl)) (pgs_cons (pg_name (i := 7) sc_p_places_ordered.nd rfl (by first | exact .inl rfl | exact .inr rfl)) (pgs_cons (pg_name (i := 8) sc_p_places_ordered.nd rfl (by first | exact .inl rfl | exact .inr rfl)) (pgs_nil))))) (tg_tup (tgs_cons (tg_name (i := 6) (by decide)) (tgs_cons (tg_name (i := 7) (by decide)) (tgs_cons (tg_name (i := 8) (by decide)) (tgs_nil) (mon_name (i := 8))) (mon_name (i := 7))) (mon_name (i := 6)))) (mon_tup (mon_cons (mon_name (i := 6)) (mon_cons (mon_name (i := 7)) (mon_cons (mon_name (i := 8)) (mon_nil))))) (fun _ _ _ _ _ => pdts_nil) (fun _ _ _ _ _ => pd_tup (pda_cons (pd_ix ix_seq opd_ix (pd_var 1) (pd_var 6)) (pda_cons (pd_ix ix_seq opd_ix (pd_var 1) (pd_var 7)) (pda_cons (pd_call G_p_copied_wishes (hr.mono (by decide)) rfl T.g_p_copied_wishes T.F_p_copied_wishes.kp T.b_p_copied_wishes_1 (pda_cons (pd_var 8) (pda_nil))) (pda_nil))))))) (px_one (px_of (pds_ret (pd_tup (pda_cons (pd_callTy call_list_of cal_listM rfl T.n_list (by decide +kernel) (pda_cons (pd_var 2) (pda_nil))) (pda_cons (pd_call G_p_moved (hr.mono (by decide)) rfl T.g_p_moved T.F_p_moved.kp T.b_p_moved_2 (pda_cons (pd_var 3) (pda_cons (pd_var 1) (pda_nil)))) (pda_cons (pd_var 5) (pda_nil))))))))))))
    sem_p_places_ordered
theorem ok_p_places_ordered (T : Tx P K mg) : FnG P w K mg base 9 T.f_p_places_ordered T.d_p_places_ordered ["program", "order"] (spD K sp_p_places_ordered) := (okx_p_places_ordered T).plain pl_p_places_ordered
def wishM (is : List Nat) (w : Wi) : Wi := ⟨w.j, w.l, movL is (w.fs.take is.length) ++ movL is (w.fs.drop is.length)⟩
def numbersG (is : List Nat) (g : Pg) : Pg := ⟨movL is g.nm, g.pm, g.rs.map fun r => ⟨r.s, r.t, r.ws.map (wishM is)⟩⟩
theorem numbersG_ok {B : Nat} {is : List Nat} {g : Pg} (ok : PgOk B g) (h : is.Perm (List.range g.nm.length)) : PgOk B (numbersG is g) := by
  have il := Ord.len h
  refine ⟨nmok_mov ok.nm h, ok.pm, by show (List.map _ g.rs).length ≤ 10; rw [List.length_map]; exact ok.rl, fun r hr => ?_⟩
  obtain ⟨r0, hr0, rfl⟩ := List.mem_map.mp hr
  have o := ok.ro r0 hr0
  refine ⟨o.s0, o.s1, o.t0, o.t1, by show (List.map _ r0.ws).length ≤ 12; rw [List.length_map]; exact o.wl, fun w hw => ?_⟩
  obtain ⟨w0, hw0, rfl⟩ := List.mem_map.mp hw
  have ow := o.wo w0 hw0
  have fl := ow.ln
  have l1 : (w0.fs.take is.length).length = is.length := by rw [List.length_take]; omega
  have l2 : (w0.fs.drop is.length).length = is.length := by rw [List.length_drop]; omega
  have p1 := movL_perm (xs := w0.fs.take is.length) (is := is) (by rw [l1, il]; exact h)
  have p2 := movL_perm (xs := w0.fs.drop is.length) (is := is) (by rw [l2, il]; exact h)
  refine ⟨fun x hx => ow.bd x ?_, ?_⟩
  · unfold Wi.ls wishM at hx
    rcases List.mem_cons.mp hx with rfl | hx
    · exact List.mem_cons_self
    · refine List.mem_cons_of_mem _ ?_
      rcases List.mem_append.mp hx with hx | hx
      · exact List.mem_of_mem_take (p1.mem_iff.mp hx)
      · exact List.mem_of_mem_drop (p2.mem_iff.mp hx)
  · show (movL is _ ++ movL is _).length = 2 * (movL is g.nm).length
    rw [List.length_append, movL_len, movL_len, movL_len, l1, l2]; omega
def sx_p_numbers_ordered : FX := fun ds ms P Z => match ds with
  | [d, x] => ∃ (g : Pg) (B : Nat), d = pgD g ∧ PgOk B g ∧ AnyX 110 x ∧ (¬ Ord g.nm.length x → Z "NoOrder" [] [] ms) ∧
      ∀ is : List Nat, x = natsD is → is.Perm (List.range g.nm.length) → ∀ t L n p q xs, PgL (numbersG is g) t L n p q xs → Frsh L ms → P t (L ++ ms)
  | _ => False
def sp_p_numbers_ordered : FS := fun ds ms P => match ds with
  | [d, x] => ∃ (g : Pg) (is : List Nat) (B : Nat), d = pgD g ∧ x = natsD is ∧ PgOk B g ∧ is.Perm (List.range g.nm.length) ∧ ∀ t L n p q xs, PgL (numbersG is g) t L n p q xs → Frsh L ms → P t (L ++ ms)
  | _ => False
theorem pl_p_numbers_ordered : ∀ ds ms P, sp_p_numbers_ordered ds ms P → sx_p_numbers_ordered ds ms P fun _ _ _ _ => False := by
  intro ds ms P h
  unfold sp_p_numbers_ordered at h
  split at h
  · obtain ⟨g, is, B, rfl, rfl, ok, hp, h⟩ := h
    exact ⟨g, B, rfl, ok, Ord.any hp (by have := ok.nm.l2; omega), fun z => z ⟨is, rfl, hp⟩, fun js e _ => natsD_inj e ▸ h⟩
  · exact h.elim
theorem len_p_numbers_ordered : ∀ ds ms Q Z, sx_p_numbers_ordered ds ms Q Z → ds.length = 2 := fun ds ms Q Z h => by
  unfold sx_p_numbers_ordered at h
  split at h <;> first | rfl | exact h.elim
def t_p_numbers_ordered : DTS := dSeq (dDrop (dCall 1 0 [0] sp_p_look_at (aCons (dVar 0) (aNil)) (aNil))) (dSeq (dAsg (dVar 0) (sTup 3 (sCons (sName 2) (sCons (sName 3) (sCons (sName 4) (sNil)))))) (dSeq (dExprZ (fun Z => dCallZ 2 0 [0, 1] sx_p_look_at_order (aCons (dCB cLen (aCons (dVar 2) (aNil))) (aCons (dVar 1) (aNil))) (aNil) Z)) (dSeq (dAsg (dLcM (iSeq (dVar 4)) (sTup 3 (sCons (sName 6) (sCons (sName 7) (sCons (sName 8) (sNil))))) (dYes) (dTup (aCons (dVar 6) (aCons (dVar 7) (aCons (dLcM (iSeq (dVar 8)) (sTup 2 (sCons (sName 9) (sCons (sName 10) (sNil)))) (dYes) (dTup (aCons (dVar 9) (aCons (dCall 2 0 [0, 1] sp_p_line_moved (aCons (dVar 10) (aCons (dVar 1) (aNil))) (aNil)) (aNil)))) [9, 10]) (aNil))))) [6, 7, 8]) (sName 5)) (dRet (dTup (aCons (dCall 2 0 [0, 1] sp_p_moved (aCons (dVar 2) (aCons (dVar 1) (aNil))) (aNil)) (aCons (dCB cListM (aCons (dVar 3) (aNil))) (aCons (dVar 5) (aNil)))))))))
theorem sem_p_numbers_ordered : ∀ ds ms Q Z, sx_p_numbers_ordered ds ms Q Z → t_p_numbers_ordered { nx := fun _ m => Q .non m, rt := Q, ex := fun c ns xs _ m => Z c ns xs m } (startD 11 ds) ms := by
  intro ds ms Q Z h
  unfold sx_p_numbers_ordered at h
  split at h
  · rename_i d x
    obtain ⟨g, B, rfl, ok, an, h1, h2⟩ := h
    have rl := ok.rl
    simp only [startD]
    unfold t_p_numbers_ordered
    walk_at "st"
    refine ⟨g, B, rfl, ok, ?_⟩
    unfold pgD
    walk_at "st"
    rw [List.length_map]
    have nl := ok.nm.l2
    refine ⟨by omega, by omega, an, fun z => h1 z, fun z => ?_⟩
    obtain ⟨is, rfl, hp⟩ := ord_of z
    have il := Ord.len hp
    walk_at "st"
    simp only [wipeD, List.set]
    refine (show compD _ _ _ _ _ (([] : List LR).map lrD) _ _ from ?_)
    refine comp_new rwD lrD (fun r x => x.rw = ⟨r.s, r.t, r.ws.map (wishM is)⟩) (fun xs m => m = rsN xs ++ ms ∧ Frsh (rsN xs) ms) g.rs [] _ _ (by rw [List.length_nil]; omega) ⟨rfl, trivial⟩ (fun r hr xs m hJ K hK => ?_) ?_
    · obtain ⟨rfl, fr0⟩ := hJ
      have o := ok.ro r hr
      unfold rwD natsD
      walk_at "st"
      simp only [wipeD, List.set]
      refine (show compD _ _ _ _ _ (([] : List LW).map lwD) _ _ from ?_)
      refine comp_new wiD lwD (fun w b => b.w = wishM is w) (fun bs m => m = wsN bs ++ (rsN xs ++ ms) ∧ Frsh (wsN bs) (rsN xs ++ ms)) r.ws [] _ _ (by rw [List.length_nil]; have := o.wl; omega) ⟨rfl, trivial⟩ (fun w hw bs m hJ K2 hK2 => ?_) ?_
      · obtain ⟨rfl, fr1⟩ := hJ
        have ow := o.wo w hw
        have fl := ow.ln
        have l1 : (w.fs.take is.length).length = is.length := by rw [List.length_take]; omega
        have l2 : (w.fs.drop is.length).length = is.length := by rw [List.length_drop]; omega
        unfold wiD
        walk_at "st"
        refine ⟨is, w.l, w.fs.take is.length, w.fs.drop is.length, by rw [List.take_append_drop]; rfl, rfl, by rw [il]; exact hp, l1, l2, by omega, fun q hq => ?_⟩
        walk_at "st"
        exact hK2 ⟨wishM is w, q⟩ _ rfl ⟨by rw [wsN_snoc]; rfl, by rw [wsN_snoc]; exact ⟨hq, fr1⟩⟩
      intro bs m bt hJ
      obtain ⟨rfl, fr1⟩ := hJ
      rw [List.nil_append] at fr1 ⊢
      intro q hq
      walk_at "st"
      have fr2 : Frsh (wsM q bs) (rsN xs ++ ms) := ⟨hq, fr1⟩
      exact hK ⟨r.s, r.t, q, bs⟩ _ (by
        unfold LR.rw
        rw [fall_map (h := LW.w) (f := wishM is) (fun _ _ e => e) bt]) ⟨by rw [rsN_snoc, List.append_assoc]; rfl, by rw [rsN_snoc]; exact frsh_app fr2 fr0⟩
    intro xs m at_ hJ
    obtain ⟨rfl, fr0⟩ := hJ
    rw [List.nil_append] at fr0 ⊢
    intro q hq
    unfold natsD
    walk_at "st"
    refine ⟨is, rfl, by rw [List.length_map]; exact hp, by rw [List.length_map]; omega, fun n hn => ?_⟩
    walk_at "st"
    intro p hp'
    walk_at "st"
    have hh := pgl_mkO (g := numbersG is g) (a := n) (b := p) (n := n) (p := p) (q := q) (xs := xs) (u := movL is (g.nm.map D.str)) (v := g.pm.map D.str) (ms := ms) (by
      show _ = List.map _ g.rs
      exact fall_map (h := LR.rw) (f := fun r : Rw => (⟨r.s, r.t, r.ws.map (wishM is)⟩ : Rw)) (fun _ _ e => e) at_) ⟨hq, fr0⟩ hn hp' ⟨rfl, rfl, (movL_map _ _ _).symm, rfl⟩
    exact h2 is rfl hp _ _ n p q xs hh.1 hh.2
  · exact h.elim
theorem okx_p_numbers_ordered (T : Tx P K mg) : FnX P w K mg base 9 T.f_p_numbers_ordered T.d_p_numbers_ordered ["program", "order"] (spX K sx_p_numbers_ordered) := by
  have G_p_look_at := ok_p_look_at (P := P) (w := w) (base := base) T
  have G_p_look_at_order := ok_p_look_at_order (P := P) (w := w) (base := base) T
  have G_p_moved := ok_p_moved (P := P) (w := w) (base := base) T
  have G_p_line_moved := ok_p_line_moved (P := P) (w := w) (base := base) T
  have X_p_look_at_order := okx_p_look_at_order (P := P) (w := w) (base := base) T
  exact fnX_of (k := 8) (t := t_p_numbers_ordered) T.F_p_numbers_ordered sc_p_numbers_ordered len_p_numbers_ordered
    (fun cdv A outer s H E hr W tk => px_cons (px_of (pds_expr (pd_call G_p_look_at (hr.mono (by decide)) rfl T.g_p_look_at T.F_p_look_at.kp T.b_p_look_at_1 (pda_cons (pd_var 0) (pda_nil))))) (px_cons (px_of (pds_asg (vs := [2, 3, 4]) (pd_var 0) (pg_tup rfl (pgs_cons (pg_name (i := 2) sc_p_numbers_ordered.nd rfl (.inl rfl)) (pgs_cons (pg_name (i := 3) sc_p_numbers_ordered.nd rfl (.inl rfl)) (pgs_cons (pg_name (i := 4) sc_p_numbers_ordered.nd rfl (.inl rfl)) (pgs_nil))))) (tg_tup (tgs_cons (tg_name (i := 2) (by decide)) (tgs_cons (tg_name (i := 3) (by decide)) (tgs_cons (tg_name (i := 4) (by decide)) (tgs_nil) (mon_name (i := 4))) (mon_name (i := 3))) (mon_name (i := 2)))))) (px_cons (px_exprZ (fun Z => pdz_call tk X_p_look_at_order (hr.mono (by decide)) rfl T.g_p_look_at_order T.F_p_look_at_order.kp T.b_p_look_at_order_2 (pda_cons (pd_callB call_len cal_len rfl T.n_len (by decide +kernel) (pda_cons (pd_var 2) (pda_nil))) (pda_cons (pd_var 1) (pda_nil))))) (px_cons (px_of (pds_setLcM (i := 5) (own := [("start", 6), ("to", 7), ("wishes", 8)]) rfl sc_p_numbers_ordered.nd rfl rfl (sw_true rfl rfl rfl (by decide +kernel)) (pdi_list (pd_var 4)) (blkOk_by (own := [("start", 6), ("to", 7), ("wishes", 8)]) (by kernel_rfl)) (fun _ _ _ _ _ => pg_tup rfl (pgs_cons (pg_name (i := 6) sc_p_numbers_ordered.nd rfl (by first | exact .inl rfl | exact .inr rfl)) (pgs_cons (pg_name (i := 7) sc_p_numbers_ordered.nd rfl (by first | exact .inl rfl | exact .inr rfl)) (pgs_cons (pg_name (i := 8) sc_p_numbers_ordered.nd rfl (by first | exact .inl rfl | exact .inr rfl)) (pgs_nil))))) (tg_tup (tgs_cons (tg_name (i := 6) (by decide)) (tgs_cons (tg_name (i := 7) (by decide)) (tgs_cons (tg_name (i := 8) (by decide)) (tgs_nil) (mon_name (i := 8))) (mon_name (i := 7))) (mon_name (i := 6)))) (mon_tup (mon_cons (mon_name (i := 6)) (mon_cons (mon_name (i := 7)) (mon_cons (mon_name (i := 8)) (mon_nil))))) (fun _ _ _ _ _ => pdts_nil) (fun _ _ _ _ _ => pd_tup (pda_cons (pd_var 6) (pda_cons (pd_var 7) (pda_cons (pd_lcM (own := [("word", 9), ("line", 10)]) rfl sc_p_numbers_ordered.nd (pdi_list (pd_var 8)) (blkOk_by (own := [("word", 9), ("line", 10)]) (by kernel_rfl)) (fun _ _ _ _ _ => pg_tup rfl (pgs_cons (pg_name (i := 9) sc_p_numbers_ordered.nd rfl (by first | exact .inl rfl | exact .inr rfl)) (pgs_cons (pg_name (i := 10) sc_p_numbers_ordered.nd rfl (by first | exact .inl rfl | exact .inr rfl)) (pgs_nil)))) (tg_tup (tgs_cons (tg_name (i := 9) (by decide)) (tgs_cons (tg_name (i := 10) (by decide)) (tgs_nil) (mon_name (i := 10))) (mon_name (i := 9)))) (mon_tup (mon_cons (mon_name (i := 9)) (mon_cons (mon_name (i := 10)) (mon_nil)))) (fun _ _ _ _ _ => pdts_nil) (fun _ _ _ _ _ => pd_tup (pda_cons (pd_var 9) (pda_cons (pd_call G_p_line_moved (hr.mono (by decide)) rfl T.g_p_line_moved T.F_p_line_moved.kp T.b_p_line_moved_2 (pda_cons (pd_var 10) (pda_cons (pd_var 1) (pda_nil)))) (pda_nil))))) (pda_nil))))))) (px_one (px_of (pds_ret (pd_tup (pda_cons (pd_call G_p_moved (hr.mono (by decide)) rfl T.g_p_moved T.F_p_moved.kp T.b_p_moved_2 (pda_cons (pd_var 2) (pda_cons (pd_var 1) (pda_nil)))) (pda_cons (pd_callTy call_list_of cal_listM rfl T.n_list (by decide +kernel) (pda_cons (pd_var 3) (pda_nil))) (pda_cons (pd_var 5) (pda_nil))))))))))))
    sem_p_numbers_ordered
theorem ok_p_numbers_ordered (T : Tx P K mg) : FnG P w K mg base 9 T.f_p_numbers_ordered T.d_p_numbers_ordered ["program", "order"] (spD K sp_p_numbers_ordered) := (okx_p_numbers_ordered T).plain pl_p_numbers_ordered
def PO (a b : Int) : Prop := 0 ≤ a ∧ 0 ≤ b ∧ b < 2147483647
def PoolAt (ms : MS) (p : Addr) : Prop := ∃ a b, PO a b ∧ look ms p = some [.int a, .int b]
def pu (ms : MS) (p : Addr) (a b : Int) : MS := put ms p [.int a, .int b]
theorem put_put : ∀ (ms : MS) (p : Addr) (x y : List D), put (put ms p x) p y = put ms p y
  | [], _, _, _ => rfl
  | (q, zs) :: r, p, x, y => by
    by_cases h : q = p
    · simp only [put, h, if_true]
    · simp only [put, h, if_false, put_put r p x y]
theorem pu_pu (ms : MS) (p : Addr) (a b c d : Int) : pu (pu ms p a b) p c d = pu ms p c d := put_put ms p _ _
theorem PoolAt.pu {ms : MS} {p : Addr} (h : PoolAt ms p) {a b : Int} (o : PO a b) : PoolAt (pu ms p a b) p := by
  obtain ⟨x, y, _, e⟩ := h
  exact ⟨a, b, o, look_put_same e⟩
/-- the pool has been drawn from, all else is as it was -/
def Chg (ms : MS) (p : Addr) (ms' : MS) : Prop := ∃ a b, PO a b ∧ ms' = pu ms p a b
theorem put_self : ∀ {ms : MS} {p : Addr} {xs : List D}, look ms p = some xs → put ms p xs = ms
  | [], _, _, h => by cases h
  | (q, zs) :: r, p, xs, h => by
    unfold look at h
    by_cases e : q = p
    · rw [if_pos e] at h
      cases h
      simp only [put, e, if_true]
    · rw [if_neg e] at h
      simp only [put, e, if_false, put_self h]
theorem PoolAt.refl {ms : MS} {p : Addr} (h : PoolAt ms p) : Chg ms p ms := by
  obtain ⟨a, b, o, e⟩ := h
  exact ⟨a, b, o, (put_self e).symm⟩
theorem Chg.trans {ms m1 m2 : MS} {p : Addr} (h : Chg ms p m1) (h2 : Chg m1 p m2) : Chg ms p m2 := by
  obtain ⟨a, b, o, rfl⟩ := h
  obtain ⟨c, d, o2, rfl⟩ := h2
  exact ⟨c, d, o2, pu_pu ms p a b c d⟩
theorem PoolAt.chg {ms m1 : MS} {p : Addr} (h : PoolAt ms p) (c : Chg ms p m1) : PoolAt m1 p := by
  obtain ⟨a, b, o, rfl⟩ := c
  exact h.pu o
theorem PoolAt.new {ms : MS} {p : Addr} {a b : Int} (o : PO a b) : PoolAt ((p, [.int a, .int b]) :: ms) p := ⟨a, b, o, by unfold look; rw [if_pos rfl]⟩
def sp_L_pool : FS := fun ds ms P => match ds with
  | [.fro xs, .int k] => ∃ ns : List Int, xs = ns.map D.int ∧ 0 ≤ k ∧ k < 100 ∧ ∀ p, (∀ q ∈ ms, q.1 ≠ p) → ∀ a b, PO a b → P (.opq (.ref p)) ((p, [.int a, .int b]) :: ms)
  | _ => False
theorem len_L_pool : ∀ ds ms Q, sp_L_pool ds ms Q → ds.length = 2 := fun ds ms Q h => by
  unfold sp_L_pool at h
  split at h <;> first | rfl | exact h.elim
def t_L_pool_c1 : DTS := dSeq (dAsg (dOp fMod (dOp fMul (dOp fAdd (dOp fAdd (dOp fMod (dVar 2) (dC (.int 2147483629))) (dOp fMul (dOp fMul (dC (.int 6151)) (dVar 1)) (dVar 1))) (dC (.int 29))) (dC (.int 48271))) (dC (.int 2147483647))) (sName 3)) (dSeq (dIfS (dTest (dOp fLt (dVar 2) (dOp fPow (dC (.int 10)) (dC (.int 18))))) (dAsg (dC (.int 0)) (sName 2)) (dNext)) (dRet (dLstM (aCons (dVar 2) (aCons (dOp fAdd (dOp fMod (dOp fMul (dVar 3) (dVar 3)) (dC (.int 2147483587))) (dC (.int 3))) (aNil))))))
def t_L_pool : DTS := dSeq (dAsg (dC (.int 0)) (sName 2)) (dSeq (dIfS (dTest (dOp fLt (dVar 1) (dCB cLen (aCons (dVar 0) (aNil))))) (dAsg (dOp fIx (dVar 0) (dVar 1)) (sName 2)) (dNext)) (t_L_pool_c1))
theorem seed_mul {c k : Int} (k0 : 0 ≤ k) (k1 : k < 100) : 0 ≤ c.fmod 2147483629 + 6151 * k * k + 29 ∧ c.fmod 2147483629 + 6151 * k * k + 29 < 2 ^ 33 := by
  have h1 := Int.fmod_nonneg_of_pos c (show (0 : Int) < 2147483629 by decide)
  have h2 := Int.fmod_lt_of_pos c (show (0 : Int) < 2147483629 by decide)
  have h3 : 0 ≤ 6151 * k * k := Int.mul_nonneg (by omega) k0
  have h4 : 6151 * k * k ≤ 6151 * 100 * 100 := Int.mul_le_mul (by omega) (by omega) k0 (by decide)
  omega
theorem pool_last {z : Int} {ms : MS} {Q : D → MS → Prop} {c : Int} (hc : 0 ≤ c) (h : ∀ p, (∀ q ∈ ms, q.1 ≠ p) → ∀ a b, PO a b → Q (.opq (.ref p)) ((p, [.int a, .int b]) :: ms)) :
    ∀ p, (∀ q ∈ ms, q.1 ≠ p) → Q (.opq (.ref p)) ((p, [.int c, .int (z.fmod 2147483587 + 3)]) :: ms) := fun p hp => by
  have f0 := Int.fmod_nonneg_of_pos z (show (0 : Int) < 2147483587 by decide)
  have f1 := Int.fmod_lt_of_pos z (show (0 : Int) < 2147483587 by decide)
  exact h p hp _ _ ⟨hc, by omega, by omega⟩
theorem pool_rest {c k : Int} {x0 : Option D} {ms : MS} {Q : D → MS → Prop} (k0 : 0 ≤ k) (k1 : k < 100) (h : ∀ p, (∀ q ∈ ms, q.1 ≠ p) → ∀ a b, PO a b → Q (.opq (.ref p)) ((p, [.int a, .int b]) :: ms)) :
    StG t_L_pool_c1 { nx := fun _ m => Q .non m, rt := Q } [x0, some (.int k), some (.int c), none] ms := by
  obtain ⟨b0, b1⟩ := seed_mul (c := c) k0 k1
  unfold t_L_pool_c1
  walk_at "st"
  refine ⟨by decide, ?_⟩
  walk_at "st"
  refine ⟨.inr (.inr ⟨by omega, by omega⟩), ?_⟩
  walk_at "st"
  refine ⟨.inr (.inr ⟨by omega, by omega⟩), ?_⟩
  walk_at "st"
  refine ⟨.inr (.inr ⟨by omega, by omega⟩), ?_⟩
  walk_at "st"
  refine ⟨by decide, ?_⟩
  generalize ((c.fmod 2147483629 + 6151 * k * k + 29) * 48271) = z
  have f0 := Int.fmod_nonneg_of_pos z (show (0 : Int) < 2147483647 by decide)
  have f1 := Int.fmod_lt_of_pos z (show (0 : Int) < 2147483647 by decide)
  generalize z.fmod 2147483647 = y at f0 f1
  walk_at "st"
  by_cases hc : c < 1000000000000000000
  · refine w_iteT (decide_eq_true hc) ?_
    walk_at "st"
    refine ⟨.inr (.inr ⟨by omega, by omega⟩), ?_⟩
    walk_at "st"
    refine ⟨by decide, ?_⟩
    walk_at "st"
    exact pool_last (by decide) h
  · refine w_iteF (decide_eq_false hc) ?_
    walk_at "st"
    refine ⟨.inr (.inr ⟨by omega, by omega⟩), ?_⟩
    walk_at "st"
    refine ⟨by decide, ?_⟩
    walk_at "st"
    exact pool_last (by omega) h
theorem sem_L_pool : ∀ ds ms Q, sp_L_pool ds ms Q → t_L_pool { nx := fun _ m => Q .non m, rt := Q } (startD 4 ds) ms := by
  intro ds ms Q h
  unfold sp_L_pool at h
  split at h
  · rename_i xs k
    obtain ⟨ns, rfl, k0, k1, h⟩ := h
    simp only [startD]
    unfold t_L_pool
    walk_at "st"
    by_cases hk : k < ((ns.map D.int).length : Int)
    · refine w_iteT (decide_eq_true hk) ?_
      have hl : k.toNat < ns.length := by rw [List.length_map] at hk; omega
      obtain ⟨c, ha⟩ : ∃ c : Int, atI (ns.map D.int) k = some (.int c) := by
        obtain ⟨j, rfl⟩ : ∃ j : Nat, k = (j : Int) := ⟨k.toNat, by omega⟩
        have hj : j < ns.length := by omega
        exact ⟨ns[j], atI_nat (by rw [List.getElem?_map, List.getElem?_eq_getElem hj]; rfl)⟩
      walk_at "st"
      refine w_ix_f ha ?_
      walk_at "st"
      exact pool_rest k0 k1 h
    · refine w_iteF (decide_eq_false hk) ?_
      walk_at "st"
      exact pool_rest k0 k1 h
  · exact h.elim
theorem ok_L_pool (T : Tx P K mg) : FnG P w K mg base 1 T.f_L_pool T.d_L_pool ["_law_script", "_law_k"] (spD K sp_L_pool) := by
  exact fnG_of (k := 0) (t := t_L_pool) T.F_L_pool sc_L_pool len_L_pool
    (fun cdv A outer s H hr => pds_cons (pds_set (i := 2) sc_L_pool.nd rfl (.inl rfl) (pd_int)) (pds_cons (pds_if (pdt_cmp op_lt opd_lt (pd_var 1) (pd_callB call_len cal_len rfl T.n_len (by decide +kernel) (pda_cons (pd_var 0) (pda_nil)))) (pds_one (pds_set (i := 2) sc_L_pool.nd rfl (.inl rfl) (pd_ix ix_seq opd_ix (pd_var 0) (pd_var 1)))) (pds_nil)) (pds_cons (pds_set (i := 3) sc_L_pool.nd rfl (.inl rfl) (pd_op op_modN opd_mod (pd_op op_mulA opd_mul (pd_op op_addD opd_add (pd_op op_addD opd_add (pd_op op_modN opd_mod (pd_var 2) (pd_int)) (pd_op op_mulA opd_mul (pd_op op_mulA opd_mul (pd_int) (pd_var 1)) (pd_var 1))) (pd_int)) (pd_int)) (pd_int))) (pds_cons (pds_if (pdt_cmp op_lt opd_lt (pd_var 2) (pd_op op_pow opd_pow (pd_int) (pd_int))) (pds_one (pds_set (i := 2) sc_L_pool.nd rfl (.inl rfl) (pd_int))) (pds_nil)) (pds_one (pds_ret (pd_lstM (pda_cons (pd_var 2) (pda_cons (pd_op op_addD opd_add (pd_op op_modN opd_mod (pd_op op_mulA opd_mul (pd_var 3) (pd_var 3)) (pd_int)) (pd_int)) (pda_nil))))))))))
    sem_L_pool
def sp_L_take : FS := fun ds ms P => match ds with
  | [.opq (.ref p), .int m] => PoolAt ms p ∧ 0 < m ∧ m ≤ 10000000000000 ∧ ∀ r, 0 ≤ r → r < m → ∀ ms', Chg ms p ms' → P (.int r) ms'
  | _ => False
theorem len_L_take : ∀ ds ms Q, sp_L_take ds ms Q → ds.length = 2 := fun ds ms Q h => by
  unfold sp_L_take at h
  split at h <;> first | rfl | exact h.elim
def t_L_take : DTS := dSeq (dIfS (dTest (dOp fGt (dOp fIx (dVar 0) (dC (.int 0))) (dC (.int 0)))) (dSeq (dAsg (dOp fMod (dOp fIx (dVar 0) (dC (.int 0))) (dVar 1)) (sName 2)) (dSeq (dSetIx (dVar 0) (dC (.int 0)) (dOp fDiv (dOp fIx (dVar 0) (dC (.int 0))) (dVar 1))) (dRet (dVar 2)))) (dNext)) (dSeq (dSetIx (dVar 0) (dC (.int 1)) (dOp fMod (dOp fAdd (dOp fMul (dOp fIx (dVar 0) (dC (.int 1))) (dC (.int 48271))) (dC (.int 12347))) (dC (.int 2147483647)))) (dRet (dOp fMod (dOp fDiv (dOp fMod (dOp fMul (dOp fIx (dVar 0) (dC (.int 1))) (dOp fIx (dVar 0) (dC (.int 1)))) (dC (.int 2147483629))) (dC (.int 64))) (dVar 1))))
theorem sem_L_take : ∀ ds ms Q, sp_L_take ds ms Q → t_L_take { nx := fun _ m => Q .non m, rt := Q } (startD 3 ds) ms := by
  intro ds ms Q h
  unfold sp_L_take at h
  split at h
  · rename_i p m
    obtain ⟨⟨a, b, ⟨a0, b0, b1⟩, e⟩, m0, m1, h⟩ := h
    unfold t_L_take
    walk_at "dl"
    simp only [fIx, asL, e, atI_0, atI_1]
    have hm : CDivA a m := ⟨by omega, Nat.lt_of_lt_of_le (Bd.log (n := 44) (x := m) (by unfold Bd; omega) (by decide)) (by decide)⟩
    have i0 : ixN ([D.int a, D.int b].length) 0 = some 0 := rfl
    have i1 : ixN ([D.int a, D.int b].length) 1 = some 1 := rfl
    have s0 : ∀ x : D, [D.int a, D.int b].set 0 x = [x, D.int b] := fun _ => rfl
    have s1 : ∀ x : D, [D.int a, D.int b].set 1 x = [D.int a, x] := fun _ => rfl
    by_cases ha : 0 < a
    · rw [if_pos ha]
      simp only [i0, s0]
      refine ⟨by omega, hm, h _ (Int.fmod_nonneg_of_pos _ m0) (Int.fmod_lt_of_pos _ m0) _ ⟨_, _, ⟨?_, b0, b1⟩, rfl⟩⟩
      rw [Int.fdiv_eq_ediv_of_nonneg _ (by omega)]
      exact Int.ediv_nonneg a0 (by omega)
    · rw [if_neg ha]
      simp only [i1, s1, look_put_same e, atI_1]
      have f0 := Int.fmod_nonneg_of_pos (b * 48271 + 12347) (show (0 : Int) < 2147483647 by decide)
      have f1 := Int.fmod_lt_of_pos (b * 48271 + 12347) (show (0 : Int) < 2147483647 by decide)
      refine ⟨.inr (.inr ⟨by decide, by decide⟩), by decide, .inr (.inl ⟨by omega, by omega⟩), by decide, ⟨by decide, by decide⟩, by omega, h _ (Int.fmod_nonneg_of_pos _ m0) (Int.fmod_lt_of_pos _ m0) _ ⟨_, _, ⟨a0, f0, f1⟩, rfl⟩⟩
  · exact h.elim
theorem ok_L_take (T : Tx P K mg) : FnG P w K mg base 1 T.f_L_take T.d_L_take ["_law_pool_here", "_law_many"] (spD K sp_L_take) := by
  exact fnG_of (k := 0) (t := t_L_take) T.F_L_take sc_L_take len_L_take
    (fun cdv A outer s H hr => pds_cons (pds_if (pdt_cmp op_gt opd_gt (pd_ix ix_seq opd_ix (pd_var 0) (pd_int)) (pd_int)) (pds_cons (pds_set (i := 2) sc_L_take.nd rfl (.inl rfl) (pd_op op_modN opd_mod (pd_ix ix_seq opd_ix (pd_var 0) (pd_int)) (pd_var 1))) (pds_cons (pds_setIx (pd_op op_fdivA opd_div (pd_ix ix_seq opd_ix (pd_var 0) (pd_int)) (pd_var 1)) (pd_var 0) (pd_int)) (pds_one (pds_ret (pd_var 2))))) (pds_nil)) (pds_cons (pds_setIx (pd_op op_modN opd_mod (pd_op op_addD opd_add (pd_op op_mulA opd_mul (pd_ix ix_seq opd_ix (pd_var 0) (pd_int)) (pd_int)) (pd_int)) (pd_int)) (pd_var 0) (pd_int)) (pds_one (pds_ret (pd_op op_modN opd_mod (pd_op op_fdivA opd_div (pd_op op_modN opd_mod (pd_op op_mulA opd_mul (pd_ix ix_seq opd_ix (pd_var 0) (pd_int)) (pd_ix ix_seq opd_ix (pd_var 0) (pd_int))) (pd_int)) (pd_int)) (pd_var 1))))))
    sem_L_take
theorem PoolAt.mem {ms : MS} {p : Addr} (h : PoolAt ms p) : ∃ e ∈ ms, e.1 = p := by
  obtain ⟨a, b, _, e⟩ := h
  exact ⟨_, look_mem e, rfl⟩
theorem chg_look {ms ms' : MS} {p q : Addr} {xs : List D} (c : Chg ms p ms') (h : look ms q = some xs) (hpq : p ≠ q) : look ms' q = some xs := by
  obtain ⟨a, b, _, rfl⟩ := c
  unfold pu
  rw [look_put_ne hpq]
  exact h
/-- the pool at p, and a list that is being made at q -/
structure PL (ms : MS) (p q : Addr) (xs : List D) : Prop where
  po : PoolAt ms p
  lk : look ms q = some xs
  ne : p ≠ q
theorem PL.new {ms : MS} {p q : Addr} {xs : List D} (h : PoolAt ms p) (hq : ∀ e ∈ ms, e.1 ≠ q) : PL ((q, xs) :: ms) p q xs := by
  obtain ⟨e, he, z⟩ := h.mem
  have hne : p ≠ q := z ▸ hq e he
  obtain ⟨a, b, o, l⟩ := h
  exact ⟨⟨a, b, o, by unfold look; rw [if_neg hne.symm]; exact l⟩, look_new, hne⟩
theorem PL.chg {ms ms' : MS} {p q : Addr} {xs : List D} (h : PL ms p q xs) (c : Chg ms p ms') : PL ms' p q xs := ⟨h.po.chg c, chg_look c h.lk h.ne, h.ne⟩
/-- how many cells are gone through -/
theorem cells_le (N : Int) (h : 1 ≤ N) (y : Nat) : 0 ≤ (if (if N < (y : Int) then N else (y : Int)) > 1 then if N < (y : Int) then N else (y : Int) else 1) ∧ (if (if N < (y : Int) then N else (y : Int)) > 1 then if N < (y : Int) then N else (y : Int) else 1) ≤ N := by
  split
  · split <;> omega
  · omega
theorem comp_pool {g : DG} {te : DE} {ds : DS} {p : Addr} {Good : D → Prop} : ∀ (xs acc : List D) (ms : MS) (P : List D → MS → Prop), PoolAt ms p → acc.length + xs.length ≤ 1000000 →
    (∀ x ∈ xs, ∀ m, PoolAt m p → ∀ P0 : D → MS → Prop, (∀ d m', Good d → PoolAt m' p → Chg m p m' → P0 d m') → g x ds fun ds2 => te ds2 m P0) →
    (∀ ys m', ys.length = xs.length → (∀ y ∈ ys, Good y) → PoolAt m' p → Chg ms p m' → P (acc ++ ys) m') → compD g dYes te ds xs acc ms P
  | [], acc, ms, P, hp, _, _, h => by
    have := h [] ms rfl (fun y hy => by cases hy) hp hp.refl
    rw [List.append_nil] at this
    exact this
  | x :: r, acc, ms, P, hp, hl, t, h => by
    rw [List.length_cons] at hl
    unfold compD
    simp only [dYes, if_true]
    refine t x List.mem_cons_self ms hp _ fun d m' gd hp' c => ⟨Nat.lt_of_lt_of_le (by omega : acc.length < 1000001) (by decide), comp_pool r _ m' P hp' (by rw [List.length_append, List.length_singleton]; omega) (fun y hy => t y (List.mem_cons_of_mem _ hy)) fun ys m2 l2 g2 p2 c2 => ?_⟩
    rw [List.append_assoc]
    exact h (d :: ys) m2 (by rw [List.length_cons, List.length_cons, l2]) (fun y hy => by
      rcases List.mem_cons.mp hy with rfl | hy
      · exact gd
      · exact g2 y hy) p2 (c.trans c2)
theorem PoolAt.cons {m : MS} {p q : Addr} {xs : List D} (h : PoolAt m p) (hne : p ≠ q) : PoolAt ((q, xs) :: m) p := by
  obtain ⟨a, b, o, l⟩ := h
  exact ⟨a, b, o, by unfold look; rw [if_neg hne.symm]; exact l⟩
theorem PoolAt.tail {m : MS} {p q : Addr} {xs : List D} (h : PoolAt ((q, xs) :: m) p) (hne : p ≠ q) : PoolAt m p := by
  obtain ⟨a, b, o, l⟩ := h
  unfold look at l
  rw [if_neg hne.symm] at l
  exact ⟨a, b, o, l⟩
theorem chg_cons {m m1 : MS} {p q : Addr} {xs : List D} (hne : p ≠ q) (c : Chg ((q, xs) :: m) p m1) : ∃ m', m1 = (q, xs) :: m' ∧ Chg m p m' := by
  obtain ⟨a, b, o, rfl⟩ := c
  refine ⟨pu m p a b, ?_, a, b, o, rfl⟩
  unfold pu
  conv => lhs; unfold put
  rw [if_neg hne.symm]
theorem PoolAt.ne {m : MS} {p q : Addr} (h : PoolAt m p) (hq : ∀ e ∈ m, e.1 ≠ q) : p ≠ q := by
  obtain ⟨e, he, z⟩ := h.mem
  exact z ▸ hq e he
theorem put_in : ∀ {ms : MS} {p : Addr} {ys : List D} {q : Addr × List D}, q ∈ put ms p ys → q ∈ ms ∨ q.2 = ys
  | [], _, _, _, h => by cases h
  | (r, zs) :: ms, p, ys, q, h => by
    unfold put at h
    split at h
    · rcases List.mem_cons.mp h with rfl | h
      · exact .inr rfl
      · exact .inl (List.mem_cons_of_mem _ h)
    · rcases List.mem_cons.mp h with rfl | h
      · exact .inl List.mem_cons_self
      · rcases put_in h with h | h
        · exact .inl (List.mem_cons_of_mem _ h)
        · exact .inr h
theorem flatM_chg {ms m1 : MS} {p : Addr} (h : flatM ms) (c : Chg ms p m1) : flatM m1 := by
  obtain ⟨a, b, _, rfl⟩ := c
  intro q hq
  rcases put_in hq with hq | hq
  · exact h q hq
  · rw [hq]; rfl
theorem flatM_cons {ms : MS} {p : Addr} {xs : List D} (h : flatM ms) (hx : flats xs = true) : flatM ((p, xs) :: ms) := fun q hq => by
  rcases List.mem_cons.mp hq with rfl | hq
  · exact hx
  · exact h q hq
theorem flats_ints : ∀ is : List Int, flats (is.map D.int) = true
  | [] => rfl
  | _ :: r => flats_ints r
theorem atI_ints {is : List Int} {i : Int} (h0 : 0 ≤ i) (h1 : i < (is.length : Int)) : ∃ v, atI (is.map D.int) i = some (.int v) ∧ v ∈ is := by
  obtain ⟨j, rfl⟩ : ∃ j : Nat, i = (j : Int) := ⟨i.toNat, by omega⟩
  have hj : j < is.length := by omega
  exact ⟨is[j], atI_nat (by rw [List.getElem?_map, List.getElem?_eq_getElem hj]; rfl), List.getElem_mem hj⟩
theorem word_of3 {a b c : D} {d : D} (h : d ∈ [a, b, c]) (ha : ∃ j, a = wdD j) (hb : ∃ j, b = wdD j) (hc : ∃ j, c = wdD j) : ∃ j, d = wdD j := by
  simp only [List.mem_cons, List.not_mem_nil, or_false] at h
  rcases h with rfl | rfl | rfl
  · exact ha
  · exact hb
  · exact hc
theorem wd_l : ∃ j, D.str "least" = wdD j := ⟨false, rfl⟩
theorem wd_j : ∃ j, D.str "just" = wdD j := ⟨true, rfl⟩
theorem line_cons {B : Nat} {is : List Int} {n : Nat} (hl : is.length = n + 1) (hb : ∀ i ∈ is, Bd B i) (j : Bool) : ∃ w : Wi, D.tup [wdD j, .lst (is.map D.int)] = wiD w ∧ WiOk B n w := by
  cases is with
  | nil => cases hl
  | cons l fs => exact ⟨⟨j, l, fs⟩, rfl, hb, by rw [List.length_cons] at hl; exact Nat.succ.inj hl⟩
/-- a loop over range(n), by its number -/
theorem loop_r {g : DG} {tb : DTS} {E : EN} (I : Nat → DS → MS → Prop) (n : Nat) : ∀ (m k : Nat), k + m = n → ∀ (ds : DS) (ms : MS), I k ds ms →
    (∀ k ds ms, k < n → I k ds ms → ∀ N : DS → MS → Prop, (∀ ds' ms', I (k + 1) ds' ms' → N ds' ms') → g (.int (0 + (k : Nat))) ds fun ds1 => tb (EN.lp E N) ds1 ms) →
    (∀ ds ms, I n ds ms → E.nx ds ms) → loopD g tb E ((List.range' k m).map fun i => D.int (0 + (i : Nat))) ds ms
  | 0, k, hk, ds, ms, h, _, q => q ds ms (by rw [← hk]; exact h)
  | m + 1, k, hk, ds, ms, h, t, q => t k ds ms (by omega) h _ fun ds' ms' h' => loop_r I n m (k + 1) (by omega) ds' ms' h' t q
theorem loop_rng {g : DG} {tb : DTS} {E : EN} (I : Nat → DS → MS → Prop) (n : Nat) {ds : DS} {ms : MS} (h : I 0 ds ms)
    (t : ∀ k ds ms, k < n → I k ds ms → ∀ N : DS → MS → Prop, (∀ ds' ms', I (k + 1) ds' ms' → N ds' ms') → g (.int (0 + (k : Nat))) ds fun ds1 => tb (EN.lp E N) ds1 ms)
    (q : ∀ ds ms, I n ds ms → E.nx ds ms) : loopD g tb E (rng 0 n) ds ms := by
  unfold rng
  rw [List.range_eq_range']
  exact loop_r I n n 0 (Nat.zero_add n) ds ms h t q
theorem take_step {ms : MS} {p : Addr} {m : Int} {P : D → MS → Prop} (h : PoolAt ms p) (m0 : 0 < m) (m1 : m ≤ 10000000000000) (q : ∀ r, 0 ≤ r → r < m → ∀ ms', PoolAt ms' p → Chg ms p ms' → P (.int r) ms') : sp_L_take [.opq (.ref p), .int m] ms P :=
  ⟨h, m0, m1, fun r h0 h1 ms' c => q r h0 h1 ms' (h.chg c) c⟩
theorem take_stepC {m : MS} {p q : Addr} {xs : List D} {n : Int} {P : D → MS → Prop} (hne : p ≠ q) (h : PoolAt m p) (m0 : 0 < n) (m1 : n ≤ 10000000000000) (k : ∀ r, 0 ≤ r → r < n → ∀ m', PoolAt m' p → Chg m p m' → P (.int r) ((q, xs) :: m')) : sp_L_take [.opq (.ref p), .int n] ((q, xs) :: m) P :=
  take_step (h.cons hne) m0 m1 fun r h0 h1 m2 p2 c2 => by
    obtain ⟨m', rfl, c'⟩ := chg_cons hne c2
    exact k r h0 h1 m' (p2.tail hne) c'
/-- a loop over range(n), by its number -/
theorem loop_rn {g : DG} {tb : DTS} {E : EN} (I : Nat → DS → MS → Prop) (n : Nat) {ds : DS} {ms : MS} (h : I 0 ds ms)
    (t : ∀ k ds ms, k < n → I k ds ms → ∀ N : DS → MS → Prop, (∀ ds' ms', I (k + 1) ds' ms' → N ds' ms') → g (.int (k : Int)) ds fun ds1 => tb (EN.lp E N) ds1 ms)
    (q : ∀ ds ms, I n ds ms → E.nx ds ms) : loopD g tb E (rng 0 n) ds ms := loop_rng I n h (fun k ds ms hk hi N hN => by rw [Int.zero_add]; exact t k ds ms hk hi N hN) q
/-- small letters, no more than so many -/
structure Ltr (w : Str) (n : Nat) : Prop where
  len : w.length ≤ n
  ok : (w.cps.toList.all fun c => decide (97 ≤ c) && decide (c < 123)) = true
theorem Ltr.add {w : Str} {n : Nat} {c : Nat} (h : Ltr w n) (h1 : 97 ≤ c) (h2 : c < 123) : Ltr (w ++ ⟨#[c]⟩) (n + 1) := by
  have e : (w ++ (⟨#[c]⟩ : Str)).cps.toList = w.cps.toList ++ [c] := by show (w.cps ++ #[c]).toList = _; simp
  have el : (w ++ (⟨#[c]⟩ : Str)).length = w.length + 1 := strLen_append _ _
  refine ⟨by have := h.len; omega, ?_⟩
  rw [e, List.all_append, h.ok, List.all_cons, List.all_nil, decide_eq_true h1, decide_eq_true h2]; rfl
theorem ltr_nil : Ltr "" 0 := ⟨Nat.le_refl _, rfl⟩
theorem ltr_at {z : Str} (hz : (z.cps.toList.all fun c => decide (97 ≤ c) && decide (c < 123)) = true) {r : Int} (h0 : 0 ≤ r) (h1 : r < (z.cps.toList.length : Int)) : ∃ c, atI z.cps.toList r = some c ∧ 97 ≤ c ∧ c < 123 ∧ z.cps.toList[r.toNat]? = some c := by
  obtain ⟨j, rfl⟩ : ∃ j : Nat, r = (j : Int) := ⟨r.toNat, by omega⟩
  have hj : j < z.cps.toList.length := by omega
  have h := List.all_eq_true.mp hz _ (List.getElem_mem hj)
  rw [Bool.and_eq_true_iff] at h
  exact ⟨_, atI_nat (List.getElem?_eq_getElem hj), of_decide_eq_true h.1, of_decide_eq_true h.2, List.getElem?_eq_getElem hj⟩
def sp_L_names : FS := fun ds ms P => match ds with
  | [.opq (.ref p), .int m, .int s] => PoolAt ms p ∧ 1 ≤ m ∧ m ≤ 6 ∧ s = 6 ∧ ∀ xs : List Str, (xs.length : Int) = m → NmOk 6 xs → ∀ ms', PoolAt ms' p → Chg ms p ms' → P (.lst (xs.map D.str)) ms'
  | _ => False
theorem len_L_names : ∀ ds ms Q, sp_L_names ds ms Q → ds.length = 3 := fun ds ms Q h => by
  unfold sp_L_names at h
  split at h <;> first | rfl | exact h.elim
def t_L_names : DTS := dSeq (dAsg (dLstM (aNil)) (sName 3)) (dSeq (dFor (iRange1 (aCons (dVar 1) (aNil))) (sName 4) (dSeq (dAsg (dC (.str "")) (sName 5)) (dSeq (dFor (iRange1 (aCons (dCall 2 0 [0, 1] sp_L_take (aCons (dVar 0) (aCons (dVar 2) (aNil))) (aNil)) (aNil))) (sName 6) (dAsg (dOp fAdd (dVar 5) (dOp fIx (dC (.str "abcdefghijklmnopqrstuvwxyz")) (dCall 2 0 [0, 1] sp_L_take (aCons (dVar 0) (aCons (dC (.int 26)) (aNil))) (aNil)))) (sName 5))) (dDrop (dAppend (dVar 3) (aCons (dOp fAdd (dVar 5) (dOp fIx (dC (.str "xyzuvw")) (dVar 4))) (aNil))))))) (dRet (dFrz (dVar 3))))
theorem let26 : ((Str.ofString "abcdefghijklmnopqrstuvwxyz").cps.toList.all fun c => decide (97 ≤ c) && decide (c < 123)) = true := by decide +kernel
theorem let6 : ((Str.ofString "xyzuvw").cps.toList.all fun c => decide (97 ≤ c) && decide (c < 123)) = true := by decide +kernel
theorem let6_is : (Str.ofString "xyzuvw").cps.toList = [120, 121, 122, 117, 118, 119] := by decide +kernel
/-- a text's last sign -/
def lastC (x : Str) : Option Nat := x.cps.toList.getLast?
theorem lastC_add (w : Str) (c : Nat) : lastC (w ++ ⟨#[c]⟩) = some c := by
  have e : (w ++ (⟨#[c]⟩ : Str)).cps.toList = w.cps.toList ++ [c] := by show (w.cps ++ #[c]).toList = _; simp
  unfold lastC; rw [e]; simp
theorem nm_last {xs : List Str} {k : Nat} (hk : k ≤ 6) (h : xs.map lastC = (([120, 121, 122, 117, 118, 119] : List Nat).take k).map some) : xs.Nodup := by
  have nd : (xs.map lastC).Nodup := by
    rw [h]
    have : k = 0 ∨ k = 1 ∨ k = 2 ∨ k = 3 ∨ k = 4 ∨ k = 5 ∨ k = 6 := by omega
    rcases this with rfl | rfl | rfl | rfl | rfl | rfl | rfl <;> decide
  exact (List.pairwise_map.mp nd).imp fun h e => h (congrArg _ e)
theorem sem_L_names : ∀ ds ms Q, sp_L_names ds ms Q → t_L_names { nx := fun _ m => Q .non m, rt := Q } (startD 7 ds) ms := by
  intro ds ms Q h
  unfold sp_L_names at h
  split at h
  · rename_i p m s
    obtain ⟨hp, m0, m1, rfl, h⟩ := h
    simp only [startD]
    unfold t_L_names
    walk_at "st"
    intro q hq
    have hne := hp.ne hq
    walk_at "st"
    refine w_mRng ⟨by omega, by omega⟩ ?_
    refine loop_rn (fun k ds m' => ∃ (xs : List Str) (m2 : MS), m' = (q, xs.map D.str) :: m2 ∧ PoolAt m2 p ∧ Chg ms p m2 ∧ xs.map lastC = (([120, 121, 122, 117, 118, 119] : List Nat).take k).map some ∧ (∀ x ∈ xs, goodNm x = true) ∧
      ∃ x4 x5 x6, ds = [some (.opq (.ref p)), some (.int m), some (.int 6), some (.opq (.ref q)), x4, x5, x6]) m.toNat ⟨[], ms, rfl, hp, hp.refl, rfl, (fun x hx => by cases hx), _, _, _, rfl⟩ ?_ ?_
    · rintro k ds m' hk ⟨xs, m2, rfl, p2, c2, hl, hx, x4, x5, x6, rfl⟩ N hN
      walk_at "st"
      refine take_stepC hne p2 (by decide) (by decide) fun r a1 b1 m3 p3 c3 => ?_
      walk_at "st"
      refine w_mRng ⟨by omega, by omega⟩ ?_
      refine loop_rn (fun j ds m' => ∃ (w : Str) (m4 : MS), m' = (q, xs.map D.str) :: m4 ∧ PoolAt m4 p ∧ Chg ms p m4 ∧ Ltr w j ∧ ∃ x6, ds = [some (.opq (.ref p)), some (.int m), some (.int 6), some (.opq (.ref q)), some (.int (k : Int)), some (.str w), x6]) r.toNat ⟨"", m3, rfl, p3, c2.trans c3, ltr_nil, _, rfl⟩ ?_ ?_
      · rintro j ds m' hj ⟨w, m4, rfl, p4, c4, lw, y6, rfl⟩ G hG
        walk_at "st"
        refine take_stepC hne p4 (by decide) (by decide) fun r2 a2 b2 m5 p5 c5 => ?_
        obtain ⟨c, ec, l1, l2, _⟩ := ltr_at let26 a2 (by rw [letters_lit]; exact b2)
        walk_at "st"
        refine w_ix_s (by decide) ec ?_
        have lw2 := lw.add l1 l2
        walk_at "st"
        refine ⟨Nat.le_trans (show w.length + 1 ≤ 10 by have := lw.len; omega) (by decide), ?_⟩
        walk_at "st"
        exact hG _ _ ⟨_, m5, rfl, p5, c4.trans c5, lw2, _, rfl⟩
      · rintro ds m' ⟨w, m4, rfl, p4, c4, lw, y6, rfl⟩
        obtain ⟨c, ec, l1, l2, l3⟩ := ltr_at let6 (r := (k : Int)) (by omega) (by rw [let6_is]; show (k : Int) < 6; omega)
        have lw2 := lw.add l1 l2
        walk_at "st"
        refine w_ix_s (by decide) ec ?_
        walk_at "st"
        refine ⟨Nat.le_trans (show w.length + 1 ≤ 10 by have := lw.len; omega) (by decide), ?_⟩
        walk_at "st"
        have xl : xs.length ≤ 6 := by have := congrArg List.length hl; rw [List.length_map, List.length_map, List.length_take] at this; omega
        refine ⟨Nat.lt_of_lt_of_le (show (xs.map D.str).length < 10 by rw [List.length_map]; omega) (by decide), ?_⟩
        walk_at "st"
        refine hN _ _ ⟨xs ++ [w ++ ⟨#[c]⟩], m4, by rw [List.map_append]; rfl, p4, c4, ?_, ?_, _, _, _, rfl⟩
        · rw [List.map_append, hl, List.map_singleton, lastC_add, let6_is, Int.toNat_natCast] at *
          rw [List.take_add_one, l3, List.map_append]; rfl
        · intro x hx'
          rcases List.mem_append.mp hx' with hx' | hx'
          · exact hx x hx'
          · rw [List.mem_singleton.mp hx']
            unfold goodNm
            have el : (w ++ (⟨#[c]⟩ : Str)).length = w.length + 1 := strLen_append _ _
            rw [lw2.ok, decide_eq_true (by omega : 1 ≤ (w ++ (⟨#[c]⟩ : Str)).length), decide_eq_true (by have := lw.len; omega : (w ++ (⟨#[c]⟩ : Str)).length ≤ 6)]; rfl
    · rintro ds m' ⟨xs, m2, rfl, p2, c2, hl, hx, x4, x5, x6, rfl⟩
      walk_at "st"
      have xl : xs.length = m.toNat := by have := congrArg List.length hl; rw [List.length_map, List.length_map, List.length_take] at this; simp at this; omega
      exact h xs (by omega) ⟨by omega, by omega, nm_last (by omega) hl, hx⟩ m2 p2 c2
  · exact h.elim
theorem ok_L_names (T : Tx P K mg) : FnG P w K mg base 2 T.f_L_names T.d_L_names ["_law_pool_here", "_law_many", "_law_most"] (spD K sp_L_names) := by
  have G_L_take := ok_L_take (P := P) (w := w) (base := base) T
  exact fnG_of (k := 1) (t := t_L_names) T.F_L_names sc_L_names len_L_names
    (fun cdv A outer s H hr => pds_cons (pds_set (i := 3) sc_L_names.nd rfl (.inl rfl) (pd_lstM (pda_nil))) (pds_cons (pds_for (vs := [4]) rfl (pdi_range1 rfl T.n_range (pda_cons (pd_var 1) (pda_nil))) (pg_name (i := 4) sc_L_names.nd rfl (.inl rfl)) (tg_name (i := 4) (by decide)) (pds_cons (pds_set (i := 5) sc_L_names.nd rfl (.inl rfl) (pd_str)) (pds_cons (pds_for (vs := [6]) rfl (pdi_range1 rfl T.n_range (pda_cons (pd_call G_L_take (hr.mono (by decide)) rfl T.g_L_take T.F_L_take.kp T.b_L_take_2 (pda_cons (pd_var 0) (pda_cons (pd_var 2) (pda_nil)))) (pda_nil))) (pg_name (i := 6) sc_L_names.nd rfl (.inl rfl)) (tg_name (i := 6) (by decide)) (pds_one (pds_set (i := 5) sc_L_names.nd rfl (.inl rfl) (pd_op op_addD opd_add (pd_var 5) (pd_ix ix_seq opd_ix (pd_str) (pd_call G_L_take (hr.mono (by decide)) rfl T.g_L_take T.F_L_take.kp T.b_L_take_2 (pda_cons (pd_var 0) (pda_cons (pd_int) (pda_nil))))))))) (pds_one (pds_expr (pd_append (pd_var 3) (pda_cons (pd_op op_addD opd_add (pd_var 5) (pd_ix ix_seq opd_ix (pd_str) (pd_var 4))) (pda_nil)))))))) (pds_one (pds_ret (pd_frz (pd_var 3))))))
    sem_L_names
def sp_L_factor : FS := fun ds ms P => match ds with
  | [.opq (.ref p)] => PoolAt ms p ∧ ∀ i, Bd 41 i → ∀ ms', PoolAt ms' p → Chg ms p ms' → P (.int i) ms'
  | _ => False
theorem len_L_factor : ∀ ds ms Q, sp_L_factor ds ms Q → ds.length = 1 := fun ds ms Q h => by
  unfold sp_L_factor at h
  split at h <;> first | rfl | exact h.elim
def t_L_factor : DTS := dSeq (dIfS (dTest (dOp fEq (dCall 2 0 [0, 1] sp_L_take (aCons (dVar 0) (aCons (dC (.int 12)) (aNil))) (aNil)) (dC (.int 0)))) (dRet (dOp fSub (dCall 2 0 [0, 1] sp_L_take (aCons (dVar 0) (aCons (dOp fMul (dC (.int 2)) (dOp fPow (dC (.int 10)) (dC (.int 12)))) (aNil))) (aNil)) (dOp fPow (dC (.int 10)) (dC (.int 12))))) (dNext)) (dRet (dOp fIx (dLst (aCons (dC (.int 0)) (aCons (dC (.int 1)) (aCons (dNeg (dC (.int 1))) (aCons (dC (.int 0)) (aCons (dC (.int 2)) (aCons (dNeg (dC (.int 3))) (aCons (dC (.int 1)) (aCons (dC (.int 0)) (aNil)))))))))) (dCall 2 0 [0, 1] sp_L_take (aCons (dVar 0) (aCons (dC (.int 8)) (aNil))) (aNil))))
theorem t12 : (10 : Int) ^ Int.toNat 12 = 1000000000000 := by decide +kernel
theorem sem_L_factor : ∀ ds ms Q, sp_L_factor ds ms Q → t_L_factor { nx := fun _ m => Q .non m, rt := Q } (startD 1 ds) ms := by
  intro ds ms Q h
  unfold sp_L_factor at h
  split at h
  · rename_i p
    obtain ⟨hp, h⟩ := h
    simp only [startD]
    unfold t_L_factor
    walk_at "st"
    refine take_step hp (by decide) (by decide) fun r a1 b1 m1 p1 c1 => ?_
    walk_at "st"
    cases e : (r == 0) with
    | true =>
      walk_at "st"
      refine w_pow (by decide) t12 ?_
      walk_at "st"
      refine ⟨.inr (.inr ⟨by decide, by decide⟩), ?_⟩
      walk_at "st"
      refine take_step p1 (by decide) (by decide) fun r2 a2 b2 m2 p2 c2 => ?_
      walk_at "st"
      refine w_pow (by decide) t12 ?_
      walk_at "st"
      exact h _ (by unfold Bd; omega) m2 p2 (c1.trans c2)
    | false =>
      walk_at "st"
      refine take_step p1 (by decide) (by decide) fun r2 a2 b2 m2 p2 c2 => ?_
      have e8 : ∃ v : Int, atI [D.int 0, .int 1, .int (-1), .int 0, .int 2, .int (-3), .int 1, .int 0] r2 = some (.int v) ∧ Bd 41 v := by
        obtain ⟨v, e, hv⟩ := atI_ints (is := [0, 1, -1, 0, 2, -3, 1, 0]) a2 b2
        refine ⟨v, e, ?_⟩
        simp only [List.mem_cons, List.not_mem_nil, or_false] at hv
        unfold Bd; omega
      obtain ⟨v, ev, bv⟩ := e8
      walk_at "st"
      refine w_ix_l ev ?_
      exact h v bv m2 p2 (c1.trans c2)
  · exact h.elim
theorem ok_L_factor (T : Tx P K mg) : FnG P w K mg base 2 T.f_L_factor T.d_L_factor ["_law_pool_here"] (spD K sp_L_factor) := by
  have G_L_take := ok_L_take (P := P) (w := w) (base := base) T
  exact fnG_of (k := 1) (t := t_L_factor) T.F_L_factor sc_L_factor len_L_factor
    (fun cdv A outer s H hr => pds_cons (pds_if (pdt_cmp (op_eqF hr.r.units) opd_eq (pd_call G_L_take (hr.mono (by decide)) rfl T.g_L_take T.F_L_take.kp T.b_L_take_2 (pda_cons (pd_var 0) (pda_cons (pd_int) (pda_nil)))) (pd_int)) (pds_one (pds_ret (pd_op op_sub opd_sub (pd_call G_L_take (hr.mono (by decide)) rfl T.g_L_take T.F_L_take.kp T.b_L_take_2 (pda_cons (pd_var 0) (pda_cons (pd_op op_mulA opd_mul (pd_int) (pd_op op_pow opd_pow (pd_int) (pd_int))) (pda_nil)))) (pd_op op_pow opd_pow (pd_int) (pd_int))))) (pds_nil)) (pds_one (pds_ret (pd_ix ix_seq opd_ix (pd_lst (pda_cons (pd_int) (pda_cons (pd_int) (pda_cons (pd_neg (pd_int)) (pda_cons (pd_int) (pda_cons (pd_int) (pda_cons (pd_neg (pd_int)) (pda_cons (pd_int) (pda_cons (pd_int) (pda_nil)))))))))) (pd_call G_L_take (hr.mono (by decide)) rfl T.g_L_take T.F_L_take.kp T.b_L_take_2 (pda_cons (pd_var 0) (pda_cons (pd_int) (pda_nil))))))))
    sem_L_factor
def sp_L_line : FS := fun ds ms P => match ds with
  | [.opq (.ref p), .int m] => PoolAt ms p ∧ 0 ≤ m ∧ m ≤ 8 ∧ ∀ is : List Int, (is.length : Int) = m + 1 → (∀ i ∈ is, Bd 41 i) → ∀ ms', PoolAt ms' p → Chg ms p ms' → P (.lst (is.map D.int)) ms'
  | _ => False
theorem len_L_line : ∀ ds ms Q, sp_L_line ds ms Q → ds.length = 2 := fun ds ms Q h => by
  unfold sp_L_line at h
  split at h <;> first | rfl | exact h.elim
def t_L_line : DTS := dRet (dOp fAdd (dLst (aCons (dOp fSub (dCall 2 0 [0, 1] sp_L_take (aCons (dVar 0) (aCons (dC (.int 9)) (aNil))) (aNil)) (dC (.int 4))) (aNil))) (dLc (iRange1 (aCons (dVar 1) (aNil))) (sName 2) (dYes) (dCall 1 0 [0] sp_L_factor (aCons (dVar 0) (aNil)) (aNil)) [2]))
theorem sem_L_line : ∀ ds ms Q, sp_L_line ds ms Q → t_L_line { nx := fun _ m => Q .non m, rt := Q } (startD 3 ds) ms := by
  intro ds ms Q h
  unfold sp_L_line at h
  split at h
  · rename_i p m
    obtain ⟨hp, m0, m8, h⟩ := h
    simp only [startD]
    unfold t_L_line
    walk_at "st"
    refine take_step hp (by decide) (by decide) fun r a1 b1 m1 p1 c1 => ?_
    walk_at "st"
    refine w_mRng ⟨by omega, by omega⟩ ?_
    simp only [wipeD, List.set]
    refine comp_pool (p := p) (Good := fun d => ∃ i, d = .int i ∧ Bd 41 i) _ [] m1 _ p1 ?_ ?_ ?_
    · rw [rng_len, List.length_nil]; omega
    · intro x hx m1 hm P0 q
      walk_at "st"
      exact ⟨hm, fun i bi m2 p2 c2 => q _ _ ⟨i, rfl, bi⟩ p2 c2⟩
    · intro ys m2 hl hg p2 c2
      rw [List.nil_append]
      rw [rng_len] at hl
      obtain ⟨is, rfl, hi, _⟩ := ints_of _ hg
      rw [List.length_map] at hl
      walk_at "st"
      try refine ⟨size_ok (by simp; omega), ?_⟩
      walk_at "st"
      exact h ((r - 4) :: is) (by rw [List.length_cons]; omega) (fun i h => by
        rcases List.mem_cons.mp h with rfl | h
        · unfold Bd; omega
        · exact hi i h) m2 p2 (c1.trans c2)
  · exact h.elim
theorem ok_L_line (T : Tx P K mg) : FnG P w K mg base 3 T.f_L_line T.d_L_line ["_law_pool_here", "_law_many"] (spD K sp_L_line) := by
  have G_L_factor := ok_L_factor (P := P) (w := w) (base := base) T
  have G_L_take := ok_L_take (P := P) (w := w) (base := base) T
  exact fnG_of (k := 2) (t := t_L_line) T.F_L_line sc_L_line len_L_line
    (fun cdv A outer s H hr => pds_one (pds_ret (pd_op op_addD opd_add (pd_lst (pda_cons (pd_op op_sub opd_sub (pd_call G_L_take (hr.mono (by decide)) rfl T.g_L_take T.F_L_take.kp T.b_L_take_2 (pda_cons (pd_var 0) (pda_cons (pd_int) (pda_nil)))) (pd_int)) (pda_nil))) (pd_lc (own := [("_law_turn", 2)]) rfl sc_L_line.nd (pdi_range1 rfl T.n_range (pda_cons (pd_var 1) (pda_nil))) (blkOk_by (own := [("_law_turn", 2)]) (by kernel_rfl)) (fun _ _ _ _ _ => pg_name (i := 2) sc_L_line.nd rfl (by first | exact .inl rfl | exact .inr rfl)) (tg_name (i := 2) (by decide)) (mon_name (i := 2)) (fun _ _ _ _ _ => pdts_nil) (fun _ _ _ _ _ => pd_call G_L_factor (hr.mono (by decide)) rfl T.g_L_factor T.F_L_factor.kp T.b_L_factor_1 (pda_cons (pd_var 0) (pda_nil)))))))
    sem_L_line
def sp_L_wishes : FS := fun ds ms P => match ds with
  | [.opq (.ref p), .int n, .int s] => PoolAt ms p ∧ 0 ≤ n ∧ n ≤ 6 ∧ 0 ≤ s ∧ s ≤ 12 ∧ ∀ ws : List Wi, (ws.length : Int) ≤ s → (∀ w ∈ ws, WiOk 41 n.toNat w) → ∀ ms', PoolAt ms' p → Chg ms p ms' → P (.lst (ws.map wiD)) ms'
  | _ => False
theorem len_L_wishes : ∀ ds ms Q, sp_L_wishes ds ms Q → ds.length = 3 := fun ds ms Q h => by
  unfold sp_L_wishes at h
  split at h <;> first | rfl | exact h.elim
def t_L_wishes : DTS := dSeq (dAsg (dLstM (aNil)) (sName 3)) (dSeq (dFor (iRange1 (aCons (dCall 2 0 [0, 1] sp_L_take (aCons (dVar 0) (aCons (dOp fAdd (dVar 2) (dC (.int 1))) (aNil))) (aNil)) (aNil))) (sName 4) (dDrop (dAppend (dVar 3) (aCons (dTup (aCons (dOp fIx (dLst (aCons (dC (.str "least")) (aCons (dC (.str "least")) (aCons (dC (.str "just")) (aNil))))) (dCall 2 0 [0, 1] sp_L_take (aCons (dVar 0) (aCons (dC (.int 3)) (aNil))) (aNil))) (aCons (dCall 2 0 [0, 1] sp_L_line (aCons (dVar 0) (aCons (dVar 1) (aNil))) (aNil)) (aNil)))) (aNil))))) (dRet (dFrz (dVar 3))))
theorem sem_L_wishes : ∀ ds ms Q, sp_L_wishes ds ms Q → t_L_wishes { nx := fun _ m => Q .non m, rt := Q } (startD 5 ds) ms := by
  intro ds ms Q h
  unfold sp_L_wishes at h
  split at h
  · rename_i p n s
    obtain ⟨hp, n0, n6, s0, s12, h⟩ := h
    simp only [startD]
    unfold t_L_wishes
    walk_at "st"
    intro q hq
    have hne := hp.ne hq
    walk_at "st"
    refine take_stepC hne hp (by omega) (by omega) fun r a1 b1 m1 p1 c1 => ?_
    walk_at "st"
    refine w_mRng ⟨by omega, by omega⟩ ?_
    refine loop_rn (fun k ds m' => ∃ (ws : List Wi) (m2 : MS), m' = (q, ws.map wiD) :: m2 ∧ PoolAt m2 p ∧ Chg ms p m2 ∧ ws.length = k ∧ (∀ w ∈ ws, WiOk 41 n.toNat w) ∧ ∃ x4, ds = [some (.opq (.ref p)), some (.int n), some (.int s), some (.opq (.ref q)), x4]) r.toNat ⟨[], m1, rfl, p1, c1, rfl, (fun x hx => by cases hx), _, rfl⟩ ?_ ?_
    · rintro k ds m' hk ⟨ws, m2, rfl, p2, c2, hl, hw, x4, rfl⟩ N hN
      walk_at "st"
      refine take_stepC hne p2 (by decide) (by decide) fun r2 a2 b2 m3 p3 c3 => ?_
      obtain ⟨d, ed, hd⟩ : ∃ d, atI [D.str "least", .str "least", .str "just"] r2 = some d ∧ d ∈ [D.str "least", .str "least", .str "just"] := by
        obtain ⟨j, rfl⟩ : ∃ j : Nat, r2 = (j : Int) := ⟨r2.toNat, by omega⟩
        have hj : j < [D.str "least", .str "least", .str "just"].length := by show j < 3; omega
        exact ⟨_, atI_nat (List.getElem?_eq_getElem hj), List.getElem_mem hj⟩
      obtain ⟨jb, rfl⟩ := word_of3 hd wd_l wd_l wd_j
      walk_at "st"
      refine w_ix_l ed ?_
      walk_at "st"
      refine ⟨p3.cons hne, by omega, by omega, fun is il bd m4 p4 c4 => ?_⟩
      obtain ⟨m5, rfl, c5⟩ := chg_cons hne c4
      obtain ⟨w, ew, ow⟩ := line_cons (n := n.toNat) (by omega) bd jb
      walk_at "st"
      rw [ew]
      refine ⟨Nat.lt_of_lt_of_le (show (ws.map wiD).length < 20 by rw [List.length_map]; omega) (by decide), ?_⟩
      walk_at "st"
      refine hN _ _ ⟨ws ++ [w], m5, by rw [List.map_append]; rfl, p4.tail hne, c2.trans (c3.trans c5), by rw [List.length_append, List.length_singleton, hl], fun z hz => ?_, _, rfl⟩
      rcases List.mem_append.mp hz with hz | hz
      · exact hw z hz
      · rw [List.mem_singleton.mp hz]; exact ow
    · rintro ds m' ⟨ws, m2, rfl, p2, c2, hl, hw, x4, rfl⟩
      walk_at "st"
      exact h ws (by omega) hw m2 p2 c2
  · exact h.elim
theorem ok_L_wishes (T : Tx P K mg) : FnG P w K mg base 4 T.f_L_wishes T.d_L_wishes ["_law_pool_here", "_law_many", "_law_most"] (spD K sp_L_wishes) := by
  have G_L_take := ok_L_take (P := P) (w := w) (base := base) T
  have G_L_line := ok_L_line (P := P) (w := w) (base := base) T
  exact fnG_of (k := 3) (t := t_L_wishes) T.F_L_wishes sc_L_wishes len_L_wishes
    (fun cdv A outer s H hr => pds_cons (pds_set (i := 3) sc_L_wishes.nd rfl (.inl rfl) (pd_lstM (pda_nil))) (pds_cons (pds_for (vs := [4]) rfl (pdi_range1 rfl T.n_range (pda_cons (pd_call G_L_take (hr.mono (by decide)) rfl T.g_L_take T.F_L_take.kp T.b_L_take_2 (pda_cons (pd_var 0) (pda_cons (pd_op op_addD opd_add (pd_var 2) (pd_int)) (pda_nil)))) (pda_nil))) (pg_name (i := 4) sc_L_wishes.nd rfl (.inl rfl)) (tg_name (i := 4) (by decide)) (pds_one (pds_expr (pd_append (pd_var 3) (pda_cons (pd_tup (pda_cons (pd_ix ix_seq opd_ix (pd_lst (pda_cons (pd_str) (pda_cons (pd_str) (pda_cons (pd_str) (pda_nil))))) (pd_call G_L_take (hr.mono (by decide)) rfl T.g_L_take T.F_L_take.kp T.b_L_take_2 (pda_cons (pd_var 0) (pda_cons (pd_int) (pda_nil))))) (pda_cons (pd_call G_L_line (hr.mono (by decide)) rfl T.g_L_line T.F_L_line.kp T.b_L_line_2 (pda_cons (pd_var 0) (pda_cons (pd_var 1) (pda_nil)))) (pda_nil)))) (pda_nil)))))) (pds_one (pds_ret (pd_frz (pd_var 3))))))
    sem_L_wishes
theorem NmOk.less {n m : Nat} {xs : List Str} (h : NmOk n xs) (hl : xs.length ≤ m) : NmOk m xs := ⟨h.l1, hl, h.nd, h.ok⟩
def sp_L_program : FS := fun ds ms P => match ds with
  | [.opq (.ref p), .int a, .int b] => PoolAt ms p ∧ 1 ≤ a ∧ a ≤ 6 ∧ 0 ≤ b ∧ b ≤ 10 ∧ ∀ (g : Pg) (q : Addr) (ms' : MS), PgOk 41 g → (g.pm.length : Int) ≤ a → (g.rs.length : Int) ≤ b → p ≠ q → (∀ e ∈ ms, e.1 ≠ q) → PoolAt ms' p → Chg ms p ms' → P (.tup [.lst (g.nm.map D.str), .lst (g.pm.map D.str), .opq (.ref q)]) ((q, g.rs.map rwD) :: ms')
  | _ => False
theorem len_L_program : ∀ ds ms Q, sp_L_program ds ms Q → ds.length = 3 := fun ds ms Q h => by
  unfold sp_L_program at h
  split at h <;> first | rfl | exact h.elim
def t_L_program : DTS := dSeq (dAsg (dCall 3 0 [0, 1, 2] sp_L_names (aCons (dVar 0) (aCons (dOp fAdd (dC (.int 1)) (dCall 2 0 [0, 1] sp_L_take (aCons (dVar 0) (aCons (dC (.int 3)) (aNil))) (aNil))) (aCons (dC (.int 6)) (aNil)))) (aNil)) (sName 3)) (dSeq (dAsg (dCall 3 0 [0, 1, 2] sp_L_names (aCons (dVar 0) (aCons (dOp fAdd (dC (.int 1)) (dCall 2 0 [0, 1] sp_L_take (aCons (dVar 0) (aCons (dVar 1) (aNil))) (aNil))) (aCons (dC (.int 6)) (aNil)))) (aNil)) (sName 4)) (dSeq (dAsg (dLstM (aNil)) (sName 5)) (dSeq (dFor (iRange1 (aCons (dCall 2 0 [0, 1] sp_L_take (aCons (dVar 0) (aCons (dOp fAdd (dVar 2) (dC (.int 1))) (aNil))) (aNil)) (aNil))) (sName 6) (dSeq (dAsg (dCall 2 0 [0, 1] sp_L_take (aCons (dVar 0) (aCons (dCB cLen (aCons (dVar 4) (aNil))) (aNil))) (aNil)) (sName 7)) (dSeq (dAsg (dCall 2 0 [0, 1] sp_L_take (aCons (dVar 0) (aCons (dCB cLen (aCons (dVar 4) (aNil))) (aNil))) (aNil)) (sName 8)) (dDrop (dAppend (dVar 5) (aCons (dTup (aCons (dVar 7) (aCons (dVar 8) (aCons (dCall 3 0 [0, 1, 2] sp_L_wishes (aCons (dVar 0) (aCons (dOp fMul (dC (.int 2)) (dCB cLen (aCons (dVar 3) (aNil)))) (aCons (dOp fIx (dLst (aCons (dC (.int 1)) (aCons (dC (.int 3)) (aCons (dC (.int 4)) (aCons (dC (.int 12)) (aNil)))))) (dCall 2 0 [0, 1] sp_L_take (aCons (dVar 0) (aCons (dC (.int 4)) (aNil))) (aNil))) (aNil)))) (aNil)) (aNil))))) (aNil))))))) (dRet (dTup (aCons (dVar 3) (aCons (dVar 4) (aCons (dVar 5) (aNil)))))))))
theorem sem_L_program : ∀ ds ms Q, sp_L_program ds ms Q → t_L_program { nx := fun _ m => Q .non m, rt := Q } (startD 9 ds) ms := by
  intro ds ms Q h
  unfold sp_L_program at h
  split at h
  · rename_i p a b
    obtain ⟨hp, a1, a6, b0, b10, h⟩ := h
    simp only [startD]
    unfold t_L_program
    walk_at "st"
    refine take_step hp (by decide) (by decide) fun r1 c1 d1 m1 p1 g1 => ?_
    walk_at "st"
    refine ⟨p1, by omega, by omega, rfl, fun nm nl no m2 p2 g2 => ?_⟩
    walk_at "st"
    refine take_step p2 (by omega) (by omega) fun r2 c2 d2 m3 p3 g3 => ?_
    walk_at "st"
    refine ⟨p3, by omega, by omega, rfl, fun pm pl po m4 p4 g4 => ?_⟩
    have chg4 := ((g1.trans g2).trans g3).trans g4
    have no3 := no.less (m := 3) (by omega)
    walk_at "st"
    intro q hq
    have hne := p4.ne hq
    have hq0 : ∀ e ∈ ms, e.1 ≠ q := fun e he z => by
      obtain ⟨x, y, _, rfl⟩ := chg4
      have : e.1 ∈ (pu ms p x y).map (·.1) := by
        unfold pu
        have adr : ∀ M : MS, (put M p [.int x, .int y]).map (·.1) = M.map (·.1) := fun M => by
          induction M with
          | nil => rfl
          | cons c r ih =>
            obtain ⟨c1, c2⟩ := c
            unfold put
            split
            · rename_i e; rw [e]; rfl
            · rw [List.map_cons, List.map_cons, ih]
        rw [adr]; exact List.mem_map_of_mem he
      obtain ⟨f, hf, ef⟩ := List.mem_map.mp this
      exact hq f hf (ef.trans z)
    walk_at "st"
    refine take_stepC hne p4 (by omega) (by omega) fun r3 c3 d3 m5 p5 g5 => ?_
    walk_at "st"
    refine w_mRng ⟨by omega, by omega⟩ ?_
    refine loop_rn (fun k ds m' => ∃ (rs : List Rw) (m2 : MS), m' = (q, rs.map rwD) :: m2 ∧ PoolAt m2 p ∧ Chg ms p m2 ∧ rs.length = k ∧ (∀ r ∈ rs, RwOk 41 nm.length pm.length r) ∧ ∃ x6 x7 x8, ds = [some (.opq (.ref p)), some (.int a), some (.int b), some (.lst (nm.map D.str)), some (.lst (pm.map D.str)), some (.opq (.ref q)), x6, x7, x8]) r3.toNat ⟨[], m5, rfl, p5, chg4.trans g5, rfl, (fun x hx => by cases hx), _, _, _, rfl⟩ ?_ ?_
    · rintro k ds m' hk ⟨rs, m6, rfl, p6, g6, hl, hr, x6, x7, x8, rfl⟩ N hN
      walk_at "st"
      rw [List.length_map]
      refine take_stepC hne p6 (by omega) (by omega) fun s e1 f1 m7 p7 g7 => ?_
      walk_at "st"
      rw [List.length_map]
      refine take_stepC hne p7 (by omega) (by omega) fun t e2 f2 m8 p8 g8 => ?_
      walk_at "st"
      rw [List.length_map]
      refine ⟨.inr (.inr ⟨by omega, by omega⟩), ?_⟩
      walk_at "st"
      refine take_stepC hne p8 (by decide) (by decide) fun v e3 f3 m9 p9 g9 => ?_
      obtain ⟨y, ey, hy⟩ := atI_ints (is := [1, 3, 4, 12]) e3 f3
      have yb : 0 ≤ y ∧ y ≤ 12 := by simp only [List.mem_cons, List.not_mem_nil, or_false] at hy; omega
      walk_at "st"
      refine w_ix_l ey ?_
      walk_at "st"
      refine ⟨p9.cons hne, by omega, by omega, yb.1, yb.2, fun ws wl wo mA pA gA => ?_⟩
      obtain ⟨mB, rfl, gB⟩ := chg_cons hne gA
      walk_at "st"
      refine ⟨Nat.lt_of_lt_of_le (show (rs.map rwD).length < 20 by rw [List.length_map]; omega) (by decide), ?_⟩
      walk_at "st"
      refine hN _ _ ⟨rs ++ [⟨s, t, ws⟩], mB, by rw [List.map_append]; rfl, pA.tail hne, g6.trans (g7.trans (g8.trans (g9.trans gB))), by rw [List.length_append, List.length_singleton, hl], fun z hz => ?_, _, _, _, rfl⟩
      rcases List.mem_append.mp hz with hz | hz
      · exact hr z hz
      · rw [List.mem_singleton.mp hz]
        exact ⟨e1, f1, e2, f2, by show ws.length ≤ 12; omega, fun w hw => by have := wo w hw; rwa [show (2 * (nm.length : Int)).toNat = 2 * nm.length by omega] at this⟩
    · rintro ds m' ⟨rs, m6, rfl, p6, g6, hl, hr, x6, x7, x8, rfl⟩
      walk_at "st"
      exact h ⟨nm, pm, rs⟩ q m6 ⟨no3, po, by show rs.length ≤ 10; omega, hr⟩ (by show (pm.length : Int) ≤ a; omega) (by show (rs.length : Int) ≤ b; omega) hne hq0 p6 g6
  · exact h.elim
theorem ok_L_program (T : Tx P K mg) : FnG P w K mg base 5 T.f_L_program T.d_L_program ["_law_pool_here", "_law_places", "_law_rows"] (spD K sp_L_program) := by
  have G_L_names := ok_L_names (P := P) (w := w) (base := base) T
  have G_L_take := ok_L_take (P := P) (w := w) (base := base) T
  have G_L_wishes := ok_L_wishes (P := P) (w := w) (base := base) T
  exact fnG_of (k := 4) (t := t_L_program) T.F_L_program sc_L_program len_L_program
    (fun cdv A outer s H hr => pds_cons (pds_set (i := 3) sc_L_program.nd rfl (.inl rfl) (pd_call G_L_names (hr.mono (by decide)) rfl T.g_L_names T.F_L_names.kp T.b_L_names_3 (pda_cons (pd_var 0) (pda_cons (pd_op op_addD opd_add (pd_int) (pd_call G_L_take (hr.mono (by decide)) rfl T.g_L_take T.F_L_take.kp T.b_L_take_2 (pda_cons (pd_var 0) (pda_cons (pd_int) (pda_nil))))) (pda_cons (pd_int) (pda_nil)))))) (pds_cons (pds_set (i := 4) sc_L_program.nd rfl (.inl rfl) (pd_call G_L_names (hr.mono (by decide)) rfl T.g_L_names T.F_L_names.kp T.b_L_names_3 (pda_cons (pd_var 0) (pda_cons (pd_op op_addD opd_add (pd_int) (pd_call G_L_take (hr.mono (by decide)) rfl T.g_L_take T.F_L_take.kp T.b_L_take_2 (pda_cons (pd_var 0) (pda_cons (pd_var 1) (pda_nil))))) (pda_cons (pd_int) (pda_nil)))))) (pds_cons (pds_set (i := 5) sc_L_program.nd rfl (.inl rfl) (pd_lstM (pda_nil))) (pds_cons (pds_for (vs := [6]) rfl (pdi_range1 rfl T.n_range (pda_cons (pd_call G_L_take (hr.mono (by decide)) rfl T.g_L_take T.F_L_take.kp T.b_L_take_2 (pda_cons (pd_var 0) (pda_cons (pd_op op_addD opd_add (pd_var 2) (pd_int)) (pda_nil)))) (pda_nil))) (pg_name (i := 6) sc_L_program.nd rfl (.inl rfl)) (tg_name (i := 6) (by decide)) (pds_cons (pds_set (i := 7) sc_L_program.nd rfl (.inl rfl) (pd_call G_L_take (hr.mono (by decide)) rfl T.g_L_take T.F_L_take.kp T.b_L_take_2 (pda_cons (pd_var 0) (pda_cons (pd_callB call_len cal_len rfl T.n_len (by decide +kernel) (pda_cons (pd_var 4) (pda_nil))) (pda_nil))))) (pds_cons (pds_set (i := 8) sc_L_program.nd rfl (.inl rfl) (pd_call G_L_take (hr.mono (by decide)) rfl T.g_L_take T.F_L_take.kp T.b_L_take_2 (pda_cons (pd_var 0) (pda_cons (pd_callB call_len cal_len rfl T.n_len (by decide +kernel) (pda_cons (pd_var 4) (pda_nil))) (pda_nil))))) (pds_one (pds_expr (pd_append (pd_var 5) (pda_cons (pd_tup (pda_cons (pd_var 7) (pda_cons (pd_var 8) (pda_cons (pd_call G_L_wishes (hr.mono (by decide)) rfl T.g_L_wishes T.F_L_wishes.kp T.b_L_wishes_3 (pda_cons (pd_var 0) (pda_cons (pd_op op_mulA opd_mul (pd_int) (pd_callB call_len cal_len rfl T.n_len (by decide +kernel) (pda_cons (pd_var 3) (pda_nil)))) (pda_cons (pd_ix ix_seq opd_ix (pd_lst (pda_cons (pd_int) (pda_cons (pd_int) (pda_cons (pd_int) (pda_cons (pd_int) (pda_nil)))))) (pd_call G_L_take (hr.mono (by decide)) rfl T.g_L_take T.F_L_take.kp T.b_L_take_2 (pda_cons (pd_var 0) (pda_cons (pd_int) (pda_nil))))) (pda_nil))))) (pda_nil))))) (pda_nil)))))))) (pds_one (pds_ret (pd_tup (pda_cons (pd_var 3) (pda_cons (pd_var 4) (pda_cons (pd_var 5) (pda_nil)))))))))))
    sem_L_program
theorem comp_pops {g : DG} {te : DE} {ds : DS} {J : List Nat → List Nat → MS → Prop} : ∀ (xs : List D) (acc rest : List Nat) (m : MS) (P : List D → MS → Prop), acc.length + xs.length ≤ 1000000 → xs.length = rest.length → J acc rest m →
    (∀ x ∈ xs, ∀ acc rest m, rest ≠ [] → J acc rest m → ∀ K : D → MS → Prop, (∀ (k : Nat) rest' m', rest'.length + 1 = rest.length → J (acc ++ [k]) rest' m' → K (.int (k : Int)) m') → g x ds fun ds2 => te ds2 m K) →
    (∀ acc' m', J acc' [] m' → P (natL acc') m') → compD g dYes te ds xs (natL acc) m P
  | [], acc, rest, m, P, _, hr, hJ, _, h => by
    cases rest with
    | nil => exact h acc m hJ
    | cons => cases hr
  | x :: xs, acc, rest, m, P, hl, hr, hJ, t, h => by
    rw [List.length_cons] at hl hr
    unfold compD
    refine t x List.mem_cons_self acc rest m (fun z => by rw [z] at hr; cases hr) hJ (fun y m4 => (natL acc).length < sizeLine ∧ compD g dYes te ds xs (natL acc ++ [y]) m4 P) fun k rest' m' hl' hJ' => ?_
    refine ⟨by unfold natL; rw [List.length_map]; exact Nat.lt_of_lt_of_le (by omega : acc.length < 1000001) (by decide), ?_⟩
    rw [show natL acc ++ [D.int (k : Int)] = natL (acc ++ [k]) by unfold natL; rw [List.map_append]; rfl]
    exact comp_pops xs (acc ++ [k]) rest' m' P (by rw [List.length_append, List.length_singleton]; omega) (by omega) hJ' (fun y hy => t y (List.mem_cons_of_mem _ hy)) h
theorem erase_map {α β : Type} (f : α → β) : ∀ (xs : List α) (k : Nat), (xs.map f).eraseIdx k = (xs.eraseIdx k).map f
  | [], _ => rfl
  | _ :: _, 0 => rfl
  | x :: r, k + 1 => by show f x :: (r.map f).eraseIdx k = f x :: (r.eraseIdx k).map f; rw [erase_map f r k]
theorem erase_perm : ∀ {xs : List Nat} {k : Nat} (h : k < xs.length), (xs[k] :: xs.eraseIdx k).Perm xs
  | [], _, h => absurd h (Nat.not_lt_zero _)
  | x :: r, 0, _ => .refl _
  | x :: r, k + 1, h => by
    show (r[k]'(Nat.lt_of_succ_lt_succ h) :: x :: r.eraseIdx k).Perm (x :: r)
    exact (List.Perm.swap x _ _).trans (.cons _ (erase_perm (Nat.lt_of_succ_lt_succ h)))
def sp_L_order : FS := fun ds ms P => match ds with
  | [.opq (.ref p), .int m] => ∃ n : Nat, m = (n : Int) ∧ n ≤ 10 ∧ PoolAt ms p ∧ ∀ is : List Nat, is.Perm (List.range n) → ∀ ms', PoolAt ms' p → (flatM ms → flatM ms') → P (natsD is) ms'
  | _ => False
theorem len_L_order : ∀ ds ms Q, sp_L_order ds ms Q → ds.length = 2 := fun ds ms Q h => by
  unfold sp_L_order at h
  split at h <;> first | rfl | exact h.elim
def t_L_order : DTS := dSeq (dAsg (dListRM (dVar 1)) (sName 2)) (dRet (dLc (iRange1 (aCons (dVar 1) (aNil))) (sName 3) (dYes) (dPopAt (dVar 2) (aCons (dCall 2 0 [0, 1] sp_L_take (aCons (dVar 0) (aCons (dCB cLen (aCons (dVar 2) (aNil))) (aNil))) (aNil)) (aNil))) [3]))
theorem sem_L_order : ∀ ds ms Q, sp_L_order ds ms Q → t_L_order { nx := fun _ m => Q .non m, rt := Q } (startD 4 ds) ms := by
  intro ds ms Q h
  unfold sp_L_order at h
  split at h
  · rename_i p m
    obtain ⟨n, rfl, n10, hp, h⟩ := h
    simp only [startD]
    unfold t_L_order
    walk_at "st"
    refine ExG.out (w_listRM ?_)
    walk_at "st"
    refine w_mListRM ⟨by omega, by omega⟩ fun q hq => ?_
    have hne := hp.ne hq
    walk_at "st"
    refine w_mRng ⟨by omega, by omega⟩ ?_
    rw [Int.toNat_natCast, rng_natW]
    simp only [wipeD, List.set]
    refine (show compD _ _ _ _ _ (natL []) _ _ from ?_)
    refine comp_pops (J := fun acc rest m => ∃ m2, m = (q, natL rest) :: m2 ∧ PoolAt m2 p ∧ Chg ms p m2 ∧ (acc ++ rest).Perm (List.range n)) _ [] (List.range n) _ _ (by unfold natL; simp; omega) (by unfold natL; simp) ⟨ms, rfl, hp, hp.refl, .refl _⟩ (fun x hx acc rest m hne0 hJ K hK => ?_) fun acc m hJ => ?_
    · obtain ⟨m2, rfl, p2, c2, pm⟩ := hJ
      have rl : rest.length ≤ 10 := by
        have := pm.length_eq
        rw [List.length_append, List.length_range] at this; omega
      have r0 : 0 < rest.length := by
        cases rest with
        | nil => exact absurd rfl hne0
        | cons => simp
      walk_at "st"
      refine ExG.out (w_var rfl ?_)
      refine ⟨⟨q, natL rest, rfl, look_new⟩, ?_⟩
      refine (show ArG (aCons _ _) _ _ _ from ?_)
      walk_at "st"
      refine CbG.out (w_len_o look_new ?_)
      rw [show (natL rest).length = rest.length from List.length_map ..]
      walk_at "st"
      refine take_stepC hne p2 (by omega) (by omega) fun r a b m3 p3 c3 => ?_
      walk_at "st"
      obtain ⟨k, rfl⟩ : ∃ k : Nat, r = (k : Int) := ⟨r.toNat, by omega⟩
      have hk : k < rest.length := by omega
      refine ⟨_, rfl, w_mPopAt (d := .int ((rest[k] : Nat) : Int)) look_new (by omega) (by rw [show (natL rest).length = rest.length from List.length_map ..]; omega) (by rw [show (natL rest).length = rest.length from List.length_map ..]; omega) (by unfold natL; rw [List.getElem?_map, Int.toNat_natCast, List.getElem?_eq_getElem hk]; rfl) put_new ?_⟩
      refine hK _ (rest.eraseIdx k) _ (by rw [List.length_eraseIdx_of_lt hk]; omega) ⟨m3, by unfold natL; rw [Int.toNat_natCast, erase_map], p3, c2.trans c3, ?_⟩
      rw [List.append_assoc]
      exact (List.Perm.append_left _ (erase_perm hk)).trans pm
    · obtain ⟨m2, rfl, p2, c2, pm⟩ := hJ
      rw [List.append_nil] at pm
      walk_at "st"
      exact h acc pm _ (p2.cons hne) fun fm => flatM_cons (flatM_chg fm c2) rfl
  · exact h.elim
theorem ok_L_order (T : Tx P K mg) : FnG P w K mg base 2 T.f_L_order T.d_L_order ["_law_pool_here", "_law_many"] (spD K sp_L_order) := by
  have G_L_take := ok_L_take (P := P) (w := w) (base := base) T
  exact fnG_of (k := 1) (t := t_L_order) T.F_L_order sc_L_order len_L_order
    (fun cdv A outer s H hr => pds_cons (pds_set (i := 2) sc_L_order.nd rfl (.inr rfl) (pd_listRM rfl rfl T.n_list rfl T.n_range (pd_var 1))) (pds_one (pds_ret (pd_lc (own := [("_law_turn", 3)]) rfl sc_L_order.nd (pdi_range1 rfl T.n_range (pda_cons (pd_var 1) (pda_nil))) (blkOk_by (own := [("_law_turn", 3)]) (by kernel_rfl)) (fun _ _ _ _ _ => pg_name (i := 3) sc_L_order.nd rfl (by first | exact .inl rfl | exact .inr rfl)) (tg_name (i := 3) (by decide)) (mon_name (i := 3)) (fun _ _ _ _ _ => pdts_nil) (fun _ _ _ _ _ => pd_popAt (pd_var 2) (pda_cons (pd_call G_L_take (hr.mono (by decide)) rfl T.g_L_take T.F_L_take.kp T.b_L_take_2 (pda_cons (pd_var 0) (pda_cons (pd_callB call_len cal_len rfl T.n_len (by decide +kernel) (pda_cons (pd_var 2) (pda_nil))) (pda_nil)))) (pda_nil)))))))
    sem_L_order
def sp_L_moved : FS := fun ds ms P => match ds with
  | [.lst ys, .lst xs] => ∃ is : List Nat, ys = natL is ∧ is.Perm (List.range xs.length) ∧ xs.length ≤ 1000 ∧ P (.lst (movL is xs)) ms
  | _ => False
theorem len_L_moved : ∀ ds ms Q, sp_L_moved ds ms Q → ds.length = 2 := fun ds ms Q h => by
  unfold sp_L_moved at h
  split at h <;> first | rfl | exact h.elim
def t_L_moved : DTS := dSeq (dAsg (dCB cListM (aCons (dVar 1) (aNil))) (sName 2)) (dSeq (dFor (iEnumD (aCons (dVar 0) (aNil))) (sTup 2 (sCons (sName 3) (sCons (sName 4) (sNil)))) (dSetIx (dVar 2) (dVar 4) (dOp fIx (dVar 1) (dVar 3)))) (dRet (dFrz (dVar 2))))
theorem enumD_atO {α : Type} (e : α → D) (xs : List α) : enumD (xs.map e) = (xs.zipIdx).map fun p => .tup [.int (p.2 : Int), e p.1] := by
  unfold enumD rng
  refine List.ext_getElem? fun i => ?_
  rw [List.getElem?_zipWith, List.getElem?_map, List.getElem?_map, List.getElem?_map, List.getElem?_zipIdx, List.length_map]
  by_cases h : i < xs.length
  · rw [List.getElem?_range h, List.getElem?_eq_getElem h]
    show some (D.tup [.int (0 + (i : Int)), e xs[i]]) = some (.tup [.int ((0 + i : Nat) : Int), e xs[i]])
    rw [Int.zero_add, Nat.zero_add]
  · rw [List.getElem?_eq_none (by rw [List.length_range]; omega), List.getElem?_eq_none (by omega)]; rfl
theorem zipIdx_zip {xs : List D} : ∀ {is : List Nat}, is.length = xs.length → (is.zipIdx).map (fun p => (p.1, xs.getD p.2 .non)) = is.zip xs := fun {is} hl => by
  refine List.ext_getElem? fun i => ?_
  rw [List.getElem?_map, List.getElem?_zipIdx]
  by_cases h : i < is.length
  · rw [List.getElem?_eq_getElem h, List.getElem?_eq_getElem (l := is.zip xs) (by rw [List.length_zip]; omega), List.getElem_zip]
    show some (is[i], xs.getD (0 + i) .non) = _
    rw [Nat.zero_add, List.getD_eq_getElem?_getD, List.getElem?_eq_getElem (by omega)]; rfl
  · rw [List.getElem?_eq_none (by omega), List.getElem?_eq_none (by rw [List.length_zip]; omega)]; rfl
theorem sem_L_moved : ∀ ds ms Q, sp_L_moved ds ms Q → t_L_moved { nx := fun _ m => Q .non m, rt := Q } (startD 5 ds) ms := by
  intro ds ms Q h
  unfold sp_L_moved at h
  split at h
  · rename_i ys xs
    obtain ⟨is, rfl, hp, hl, h⟩ := h
    have il := Ord.len hp
    simp only [startD]
    unfold t_L_moved
    walk_at "st"
    intro q hq
    walk_at "st"
    unfold natL
    rw [enumD_atO]
    refine loop_lW (fun p : Nat × Nat => D.tup [.int (p.2 : Int), .int (p.1 : Int)]) is.zipIdx (fun pre ds m => m = (q, putL (pre.map fun p => (p.1, xs.getD p.2 .non)) xs) :: ms ∧ ∃ x3 x4, ds = [some (.lst (is.map fun (k : Nat) => D.int (k : Int))), some (.lst xs), some (.opq (.ref q)), x3, x4]) is.zipIdx [] _ _ rfl ⟨rfl, _, _, rfl⟩ ?_ ?_
    · rintro pre ⟨k, i⟩ rest ds m hs ⟨rfl, y3, y4, rfl⟩ N hN
      have hm : (k, i) ∈ is.zipIdx := by rw [← hs]; simp
      have hm2 := List.mem_zipIdx hm
      have hi : i < is.length := by have := hm2.2.1; omega
      have hk : k < xs.length := Ord.lt hp k (by rw [hm2.2.2]; exact List.getElem_mem _)
      walk_at "st"
      refine w_ix_l (d := xs.getD i .non) (atI_nat (by rw [List.getD_eq_getElem?_getD, List.getElem?_eq_getElem (by omega)]; rfl)) ?_
      walk_at "st"
      refine w_mSetIx (j := k) look_new (ixN_natO (by rw [putL_len]; exact hk)) put_new ?_
      walk_at "st"
      exact hN _ _ ⟨by rw [List.map_append, List.map_singleton, putL_snoc], _, _, rfl⟩
    · rintro ds m ⟨rfl, y3, y4, rfl⟩
      walk_at "st"
      rw [zipIdx_zip il]
      exact h
  · exact h.elim
theorem ok_L_moved (T : Tx P K mg) : FnG P w K mg base 1 T.f_L_moved T.d_L_moved ["_law_led", "_law_some"] (spD K sp_L_moved) := by
  exact fnG_of (k := 0) (t := t_L_moved) T.F_L_moved sc_L_moved len_L_moved
    (fun cdv A outer s H hr => pds_cons (pds_set (i := 2) sc_L_moved.nd rfl (.inl rfl) (pd_callTy call_list_of cal_listM rfl T.n_list (by decide +kernel) (pda_cons (pd_var 1) (pda_nil)))) (pds_cons (pds_for (vs := [3, 4]) rfl (pdi_enum rfl T.n_enumerate (pda_cons (pd_var 0) (pda_nil))) (pg_tup rfl (pgs_cons (pg_name (i := 3) sc_L_moved.nd rfl (.inl rfl)) (pgs_cons (pg_name (i := 4) sc_L_moved.nd rfl (.inl rfl)) (pgs_nil)))) (tg_tup (tgs_cons (tg_name (i := 3) (by decide)) (tgs_cons (tg_name (i := 4) (by decide)) (tgs_nil) (mon_name (i := 4))) (mon_name (i := 3)))) (pds_one (pds_setIx (pd_ix ix_seq opd_ix (pd_var 1) (pd_var 3)) (pd_var 2) (pd_var 4)))) (pds_one (pds_ret (pd_frz (pd_var 2))))))
    sem_L_moved
def sp_L_by_places : FS := fun ds ms P => match ds with
  | [d, .lst ys] => ∃ (g : Pg) (is : List Nat) (B : Nat), d = pgD g ∧ ys = natL is ∧ PgOk B g ∧ is.Perm (List.range g.pm.length) ∧ P (pgD (placesG is g)) ms
  | _ => False
theorem len_L_by_places : ∀ ds ms Q, sp_L_by_places ds ms Q → ds.length = 2 := fun ds ms Q h => by
  unfold sp_L_by_places at h
  split at h <;> first | rfl | exact h.elim
def t_L_by_places : DTS := dSeq (dAsg (dVar 0) (sTup 3 (sCons (sName 2) (sCons (sName 3) (sCons (sName 4) (sNil)))))) (dSeq (dAsg (dLc (iSeq (dVar 4)) (sTup 3 (sCons (sName 6) (sCons (sName 7) (sCons (sName 8) (sNil))))) (dYes) (dTup (aCons (dOp fIx (dVar 1) (dVar 6)) (aCons (dOp fIx (dVar 1) (dVar 7)) (aCons (dLc (iSeq (dVar 8)) (sTup 2 (sCons (sName 9) (sCons (sName 10) (sNil)))) (dYes) (dTup (aCons (dVar 9) (aCons (dCB cList (aCons (dVar 10) (aNil))) (aNil)))) [9, 10]) (aNil))))) [6, 7, 8]) (sName 5)) (dRet (dTup (aCons (dCB cList (aCons (dVar 2) (aNil))) (aCons (dCall 2 0 [0, 1] sp_L_moved (aCons (dVar 1) (aCons (dVar 3) (aNil))) (aNil)) (aCons (dVar 5) (aNil)))))))
theorem sem_L_by_places : ∀ ds ms Q, sp_L_by_places ds ms Q → t_L_by_places { nx := fun _ m => Q .non m, rt := Q } (startD 11 ds) ms := by
  intro ds ms Q h
  unfold sp_L_by_places at h
  split at h
  · rename_i d ys
    obtain ⟨g, is, B, rfl, rfl, ok, hp, h⟩ := h
    have rl := ok.rl
    have il := Ord.len hp
    have pl := ok.pm.l2
    simp only [startD]
    unfold t_L_by_places
    unfold pgD
    walk_at "st"
    simp only [wipeD, List.set]
    refine comp_e rwD (fun r => rwD ⟨((is.getD r.s.toNat 0 : Nat) : Int), ((is.getD r.t.toNat 0 : Nat) : Int), r.ws⟩) g.rs [] _ (by rw [List.length_nil]; omega) (fun r hr P0 q => ?_) ?_
    · have o := ok.ro r hr
      have o1 := o.s0
      have o2 := o.s1
      have o3 := o.t0
      have o4 := o.t1
      unfold rwD
      walk_at "st"
      refine w_ix_l (at_natL o1 (by omega)) ?_
      walk_at "st"
      refine w_ix_l (at_natL o3 (by omega)) ?_
      walk_at "st"
      simp only [wipeD, List.set]
      refine comp_e wiD wiD r.ws [] _ (by rw [List.length_nil]; have := o.wl; omega) (fun w hw P1 q1 => ?_) ?_
      · unfold wiD
        walk_at "st"
        exact q1
      rw [List.nil_append]
      walk_at "st"
      exact q
    rw [List.nil_append]
    walk_at "st"
    refine ⟨is, rfl, by rw [List.length_map]; exact hp, by rw [List.length_map]; omega, ?_⟩
    walk_at "st"
    unfold pgD placesG at h
    rw [List.map_map, movL_map] at h
    exact h
  · exact h.elim
theorem ok_L_by_places (T : Tx P K mg) : FnG P w K mg base 2 T.f_L_by_places T.d_L_by_places ["_law_own", "_law_led"] (spD K sp_L_by_places) := by
  have G_L_moved := ok_L_moved (P := P) (w := w) (base := base) T
  exact fnG_of (k := 1) (t := t_L_by_places) T.F_L_by_places sc_L_by_places len_L_by_places
    (fun cdv A outer s H hr => pds_cons (pds_asg (vs := [2, 3, 4]) (pd_var 0) (pg_tup rfl (pgs_cons (pg_name (i := 2) sc_L_by_places.nd rfl (.inl rfl)) (pgs_cons (pg_name (i := 3) sc_L_by_places.nd rfl (.inl rfl)) (pgs_cons (pg_name (i := 4) sc_L_by_places.nd rfl (.inl rfl)) (pgs_nil))))) (tg_tup (tgs_cons (tg_name (i := 2) (by decide)) (tgs_cons (tg_name (i := 3) (by decide)) (tgs_cons (tg_name (i := 4) (by decide)) (tgs_nil) (mon_name (i := 4))) (mon_name (i := 3))) (mon_name (i := 2))))) (pds_cons (pds_setLc (i := 5) (own := [("_law_start", 6), ("_law_to", 7), ("_law_wishes_here", 8)]) rfl sc_L_by_places.nd rfl rfl (sw_true rfl rfl rfl (by decide +kernel)) (pdi_list (pd_var 4)) (blkOk_by (own := [("_law_start", 6), ("_law_to", 7), ("_law_wishes_here", 8)]) (by kernel_rfl)) (fun _ _ _ _ _ => pg_tup rfl (pgs_cons (pg_name (i := 6) sc_L_by_places.nd rfl (by first | exact .inl rfl | exact .inr rfl)) (pgs_cons (pg_name (i := 7) sc_L_by_places.nd rfl (by first | exact .inl rfl | exact .inr rfl)) (pgs_cons (pg_name (i := 8) sc_L_by_places.nd rfl (by first | exact .inl rfl | exact .inr rfl)) (pgs_nil))))) (tg_tup (tgs_cons (tg_name (i := 6) (by decide)) (tgs_cons (tg_name (i := 7) (by decide)) (tgs_cons (tg_name (i := 8) (by decide)) (tgs_nil) (mon_name (i := 8))) (mon_name (i := 7))) (mon_name (i := 6)))) (mon_tup (mon_cons (mon_name (i := 6)) (mon_cons (mon_name (i := 7)) (mon_cons (mon_name (i := 8)) (mon_nil))))) (fun _ _ _ _ _ => pdts_nil) (fun _ _ _ _ _ => pd_tup (pda_cons (pd_ix ix_seq opd_ix (pd_var 1) (pd_var 6)) (pda_cons (pd_ix ix_seq opd_ix (pd_var 1) (pd_var 7)) (pda_cons (pd_lc (own := [("_law_word", 9), ("_law_line_here", 10)]) rfl sc_L_by_places.nd (pdi_list (pd_var 8)) (blkOk_by (own := [("_law_word", 9), ("_law_line_here", 10)]) (by kernel_rfl)) (fun _ _ _ _ _ => pg_tup rfl (pgs_cons (pg_name (i := 9) sc_L_by_places.nd rfl (by first | exact .inl rfl | exact .inr rfl)) (pgs_cons (pg_name (i := 10) sc_L_by_places.nd rfl (by first | exact .inl rfl | exact .inr rfl)) (pgs_nil)))) (tg_tup (tgs_cons (tg_name (i := 9) (by decide)) (tgs_cons (tg_name (i := 10) (by decide)) (tgs_nil) (mon_name (i := 10))) (mon_name (i := 9)))) (mon_tup (mon_cons (mon_name (i := 9)) (mon_cons (mon_name (i := 10)) (mon_nil)))) (fun _ _ _ _ _ => pdts_nil) (fun _ _ _ _ _ => pd_tup (pda_cons (pd_var 9) (pda_cons (pd_callTy call_list_of cal_list rfl T.n_list (by decide +kernel) (pda_cons (pd_var 10) (pda_nil))) (pda_nil))))) (pda_nil)))))) (pds_one (pds_ret (pd_tup (pda_cons (pd_callTy call_list_of cal_list rfl T.n_list (by decide +kernel) (pda_cons (pd_var 2) (pda_nil))) (pda_cons (pd_call G_L_moved (hr.mono (by decide)) rfl T.g_L_moved T.F_L_moved.kp T.b_L_moved_2 (pda_cons (pd_var 1) (pda_cons (pd_var 3) (pda_nil)))) (pda_cons (pd_var 5) (pda_nil)))))))))
    sem_L_by_places
def sp_L_by_numbers : FS := fun ds ms P => match ds with
  | [d, .lst ys] => ∃ (g : Pg) (is : List Nat) (B : Nat), d = pgD g ∧ ys = natL is ∧ PgOk B g ∧ is.Perm (List.range g.nm.length) ∧ P (pgD (numbersG is g)) ms
  | _ => False
theorem len_L_by_numbers : ∀ ds ms Q, sp_L_by_numbers ds ms Q → ds.length = 2 := fun ds ms Q h => by
  unfold sp_L_by_numbers at h
  split at h <;> first | rfl | exact h.elim
def t_L_by_numbers : DTS := dSeq (dAsg (dVar 0) (sTup 3 (sCons (sName 2) (sCons (sName 3) (sCons (sName 4) (sNil)))))) (dSeq (dAsg (dCB cLen (aCons (dVar 2) (aNil))) (sName 5)) (dSeq (dAsg (dLstM (aNil)) (sName 6)) (dSeq (dFor (iSeq (dVar 4)) (sTup 3 (sCons (sName 7) (sCons (sName 8) (sCons (sName 9) (sNil))))) (dSeq (dAsg (dLstM (aNil)) (sName 10)) (dSeq (dFor (iSeq (dVar 9)) (sTup 2 (sCons (sName 11) (sCons (sName 12) (sNil)))) (dSeq (dAsg (dCall 2 0 [0, 1] sp_L_moved (aCons (dVar 1) (aCons (dSl (dVar 12) (oSome (dC (.int 1))) (oSome (dOp fAdd (dC (.int 1)) (dVar 5)))) (aNil))) (aNil)) (sName 13)) (dDrop (dAppend (dVar 10) (aCons (dTup (aCons (dVar 11) (aCons (dOp fAdd (dOp fAdd (dSl (dVar 12) (oNone) (oSome (dC (.int 1)))) (dVar 13)) (dCall 2 0 [0, 1] sp_L_moved (aCons (dVar 1) (aCons (dSl (dVar 12) (oSome (dOp fAdd (dC (.int 1)) (dVar 5))) (oNone)) (aNil))) (aNil))) (aNil)))) (aNil)))))) (dDrop (dAppend (dVar 6) (aCons (dTup (aCons (dVar 7) (aCons (dVar 8) (aCons (dFrz (dVar 10)) (aNil))))) (aNil))))))) (dRet (dTup (aCons (dCall 2 0 [0, 1] sp_L_moved (aCons (dVar 1) (aCons (dVar 2) (aNil))) (aNil)) (aCons (dCB cList (aCons (dVar 3) (aNil))) (aCons (dFrz (dVar 6)) (aNil)))))))))
theorem sem_L_by_numbers : ∀ ds ms Q, sp_L_by_numbers ds ms Q → t_L_by_numbers { nx := fun _ m => Q .non m, rt := Q } (startD 14 ds) ms := by
  intro ds ms Q h
  unfold sp_L_by_numbers at h
  split at h
  · rename_i d ys
    obtain ⟨g, is, B, rfl, rfl, ok, hp, h⟩ := h
    have rl := ok.rl
    have il := Ord.len hp
    have nl := ok.nm.l2
    simp only [startD]
    unfold t_L_by_numbers
    unfold pgD
    walk_at "st"
    intro q hq
    walk_at "st"
    rw [List.length_map]
    refine loop_lW rwD g.rs (fun pre ds m => m = (q, pre.map fun r => rwD ⟨r.s, r.t, r.ws.map (wishM is)⟩) :: ms ∧ ∃ x7 x8 x9 x10 x11 x12 x13, ds = [some (pgD g), some (.lst (natL is)), some (.lst (g.nm.map D.str)), some (.lst (g.pm.map D.str)), some (.lst (g.rs.map rwD)), some (.int (g.nm.length : Int)), some (.opq (.ref q)), x7, x8, x9, x10, x11, x12, x13]) g.rs [] _ _ rfl ⟨rfl, _, _, _, _, _, _, _, rfl⟩ ?_ ?_
    · rintro pre r rest ds m hs ⟨rfl, y7, y8, y9, y10, y11, y12, y13, rfl⟩ N hN
      have hr : r ∈ g.rs := by rw [← hs]; simp
      have o := ok.ro r hr
      have pl : pre.length < 10 := by have := congrArg List.length hs; rw [List.length_append, List.length_cons] at this; omega
      unfold rwD
      walk_at "st"
      intro q2 hq2
      walk_at "st"
      refine loop_lW wiD r.ws (fun pr ds m => m = (q2, pr.map fun w => wiD (wishM is w)) :: (q, pre.map fun r => rwD ⟨r.s, r.t, r.ws.map (wishM is)⟩) :: ms ∧ ∃ x11 x12 x13, ds = [some (pgD g), some (.lst (natL is)), some (.lst (g.nm.map D.str)), some (.lst (g.pm.map D.str)), some (.lst (g.rs.map rwD)), some (.int (g.nm.length : Int)), some (.opq (.ref q)), some (.int r.s), some (.int r.t), some (.lst (r.ws.map wiD)), some (.opq (.ref q2)), x11, x12, x13]) r.ws [] _ _ rfl ⟨rfl, _, _, _, rfl⟩ ?_ ?_
      · rintro pr w rest2 ds m hs2 ⟨rfl, z11, z12, z13, rfl⟩ N2 hN2
        have hw : w ∈ r.ws := by rw [← hs2]; simp
        have ow := o.wo w hw
        have fl := ow.ln
        have wl := o.wl
        have pl2 : pr.length < 12 := by have := congrArg List.length hs2; rw [List.length_append, List.length_cons] at this; omega
        have l1 : (w.fs.take is.length).length = is.length := by rw [List.length_take]; omega
        have l2 : (w.fs.drop is.length).length = is.length := by rw [List.length_drop]; omega
        have e1 : cutL (D.int w.l :: w.fs.map D.int) (some 1) (some (1 + (g.nm.length : Int))) = (w.fs.take is.length).map D.int := by
          rw [cutL_mid _ _ _ (by decide) (by omega), show (1 + (g.nm.length : Int) - 1).toNat = is.length by omega, List.map_take]
          rfl
        have e2 : cutL (D.int w.l :: w.fs.map D.int) (some (1 + (g.nm.length : Int))) none = (w.fs.drop is.length).map D.int := by
          rw [cutL_from _ _ (by omega), show (1 + (g.nm.length : Int)).toNat = is.length + 1 by omega, List.drop_succ_cons, List.map_drop]
        have e3 : cutL (D.int w.l :: w.fs.map D.int) none (some 1) = [.int w.l] := by
          rw [cutL_to _ _ (by decide)]; rfl
        unfold wiD
        walk_at "st"
        rw [e1]
        refine ⟨is, rfl, by rw [List.length_map, l1, il]; exact hp, by rw [List.length_map]; omega, ?_⟩
        walk_at "st"
        rw [e3]
        refine ⟨size_ok (by rw [List.length_singleton, movL_len, List.length_map]; omega), ?_⟩
        walk_at "st"
        rw [e2]
        refine ⟨is, rfl, by rw [List.length_map, l2, il]; exact hp, by rw [List.length_map]; omega, ?_⟩
        walk_at "st"
        refine ⟨size_ok (by rw [List.length_append, List.length_singleton, movL_len, List.length_map, movL_len, List.length_map]; omega), ?_⟩
        walk_at "st"
        refine ⟨Nat.lt_of_lt_of_le (show (pr.map fun w => wiD (wishM is w)).length < 20 by rw [List.length_map]; omega) (by decide), ?_⟩
        walk_at "st"
        refine hN2 _ _ ⟨?_, _, _, _, rfl⟩
        rw [List.map_append, List.map_singleton, ← movL_map, ← movL_map]
        unfold wishM wiD
        rw [List.map_append]
        rfl
      · rintro ds m ⟨rfl, z11, z12, z13, rfl⟩
        walk_at "st"
        have hqq : q ≠ q2 := fun z => hq2 _ List.mem_cons_self z
        refine w_mApp (by unfold look; rw [if_neg hqq.symm]; exact look_new) ?_
        walk_at "st"
        refine ⟨Nat.lt_of_lt_of_le (show (pre.map fun r => rwD ⟨r.s, r.t, r.ws.map (wishM is)⟩).length < 20 by rw [List.length_map]; omega) (by decide), ?_⟩
        walk_at "st"
        refine hN _ _ ⟨?_, _, _, _, _, _, _, _, rfl⟩
        rw [List.map_append, List.map_singleton]
        unfold rwD
        rw [List.map_map]
        rfl
    · rintro ds m ⟨rfl, y7, y8, y9, y10, y11, y12, y13, rfl⟩
      walk_at "st"
      refine ⟨is, rfl, by rw [List.length_map]; exact hp, by rw [List.length_map]; omega, ?_⟩
      walk_at "st"
      unfold pgD numbersG at h
      rw [List.map_map, movL_map] at h
      exact h
  · exact h.elim
theorem ok_L_by_numbers (T : Tx P K mg) : FnG P w K mg base 2 T.f_L_by_numbers T.d_L_by_numbers ["_law_own", "_law_led"] (spD K sp_L_by_numbers) := by
  have G_L_moved := ok_L_moved (P := P) (w := w) (base := base) T
  exact fnG_of (k := 1) (t := t_L_by_numbers) T.F_L_by_numbers sc_L_by_numbers len_L_by_numbers
    (fun cdv A outer s H hr => pds_cons (pds_asg (vs := [2, 3, 4]) (pd_var 0) (pg_tup rfl (pgs_cons (pg_name (i := 2) sc_L_by_numbers.nd rfl (.inl rfl)) (pgs_cons (pg_name (i := 3) sc_L_by_numbers.nd rfl (.inl rfl)) (pgs_cons (pg_name (i := 4) sc_L_by_numbers.nd rfl (.inl rfl)) (pgs_nil))))) (tg_tup (tgs_cons (tg_name (i := 2) (by decide)) (tgs_cons (tg_name (i := 3) (by decide)) (tgs_cons (tg_name (i := 4) (by decide)) (tgs_nil) (mon_name (i := 4))) (mon_name (i := 3))) (mon_name (i := 2))))) (pds_cons (pds_set (i := 5) sc_L_by_numbers.nd rfl (.inl rfl) (pd_callB call_len cal_len rfl T.n_len (by decide +kernel) (pda_cons (pd_var 2) (pda_nil)))) (pds_cons (pds_set (i := 6) sc_L_by_numbers.nd rfl (.inl rfl) (pd_lstM (pda_nil))) (pds_cons (pds_for (vs := [7, 8, 9]) rfl (pdi_list (pd_var 4)) (pg_tup rfl (pgs_cons (pg_name (i := 7) sc_L_by_numbers.nd rfl (.inl rfl)) (pgs_cons (pg_name (i := 8) sc_L_by_numbers.nd rfl (.inl rfl)) (pgs_cons (pg_name (i := 9) sc_L_by_numbers.nd rfl (.inl rfl)) (pgs_nil))))) (tg_tup (tgs_cons (tg_name (i := 7) (by decide)) (tgs_cons (tg_name (i := 8) (by decide)) (tgs_cons (tg_name (i := 9) (by decide)) (tgs_nil) (mon_name (i := 9))) (mon_name (i := 8))) (mon_name (i := 7)))) (pds_cons (pds_set (i := 10) sc_L_by_numbers.nd rfl (.inl rfl) (pd_lstM (pda_nil))) (pds_cons (pds_for (vs := [11, 12]) rfl (pdi_list (pd_var 9)) (pg_tup rfl (pgs_cons (pg_name (i := 11) sc_L_by_numbers.nd rfl (.inl rfl)) (pgs_cons (pg_name (i := 12) sc_L_by_numbers.nd rfl (.inl rfl)) (pgs_nil)))) (tg_tup (tgs_cons (tg_name (i := 11) (by decide)) (tgs_cons (tg_name (i := 12) (by decide)) (tgs_nil) (mon_name (i := 12))) (mon_name (i := 11)))) (pds_cons (pds_set (i := 13) sc_L_by_numbers.nd rfl (.inl rfl) (pd_call G_L_moved (hr.mono (by decide)) rfl T.g_L_moved T.F_L_moved.kp T.b_L_moved_2 (pda_cons (pd_var 1) (pda_cons (pd_slice (pd_var 12) (pdo_some (pd_int)) (pdo_some (pd_op op_addD opd_add (pd_int) (pd_var 5)))) (pda_nil))))) (pds_one (pds_expr (pd_append (pd_var 10) (pda_cons (pd_tup (pda_cons (pd_var 11) (pda_cons (pd_op op_addD opd_add (pd_op op_addD opd_add (pd_slice (pd_var 12) (pdo_none) (pdo_some (pd_int))) (pd_var 13)) (pd_call G_L_moved (hr.mono (by decide)) rfl T.g_L_moved T.F_L_moved.kp T.b_L_moved_2 (pda_cons (pd_var 1) (pda_cons (pd_slice (pd_var 12) (pdo_some (pd_op op_addD opd_add (pd_int) (pd_var 5))) (pdo_none)) (pda_nil))))) (pda_nil)))) (pda_nil))))))) (pds_one (pds_expr (pd_append (pd_var 6) (pda_cons (pd_tup (pda_cons (pd_var 7) (pda_cons (pd_var 8) (pda_cons (pd_frz (pd_var 10)) (pda_nil))))) (pda_nil)))))))) (pds_one (pds_ret (pd_tup (pda_cons (pd_call G_L_moved (hr.mono (by decide)) rfl T.g_L_moved T.F_L_moved.kp T.b_L_moved_2 (pda_cons (pd_var 1) (pda_cons (pd_var 2) (pda_nil)))) (pda_cons (pd_callTy call_list_of cal_list rfl T.n_list (by decide +kernel) (pda_cons (pd_var 3) (pda_nil))) (pda_cons (pd_frz (pd_var 6)) (pda_nil)))))))))))
    sem_L_by_numbers
def sp_L_refused : FS := fun ds ms P => match ds with
  | [.int k, d, x] => ∃ (g : Pg) (B : Nat), d = pgD g ∧ PgOk B g ∧ AnyX 110 x ∧ ((k = 0 ∧ ¬ Ord g.pm.length x) ∨ (k = 1 ∧ ¬ Ord g.nm.length x)) ∧ P (.bl true) ms
  | _ => False
theorem len_L_refused : ∀ ds ms Q, sp_L_refused ds ms Q → ds.length = 3 := fun ds ms Q h => by
  unfold sp_L_refused at h
  split at h <;> first | rfl | exact h.elim
def t_L_refused : DTS := dSeq (dAsg (dC .non) (sName 3)) (dSeq (dTry0 ml_0 4 3 (dExprZ (fun Z => dPickZ 2 [0, 1] sx_p_places_ordered sx_p_numbers_ordered (dVar 0) (aCons (dVar 1) (aCons (dVar 2) (aNil))) Z))) (dSeq (dIfS (dTest (dOp fIs (dVar 3) (dC .non))) (dRet (dC (.bl false))) (dNext)) (dRet (dAndV (dIsE ml_0 (dVar 3)) (dNotV (dIsE3 ml_1 ml_1 ml_1 (dVar 3)))))))
theorem sem_L_refused : ∀ ds ms Q, sp_L_refused ds ms Q → t_L_refused { nx := fun _ m => Q .non m, rt := Q } (startD 5 ds) ms := by
  intro ds ms Q h
  unfold sp_L_refused at h
  split at h
  · rename_i k d x
    obtain ⟨g, B, rfl, ok, an, hk, h⟩ := h
    simp only [startD]
    unfold t_L_refused
    rcases hk with ⟨rfl, no⟩ | ⟨rfl, no⟩
    · walk_at "st"
      refine ⟨g, B, rfl, ok, an, fun _ => ?_, fun is e r => absurd ⟨is, e, r⟩ no⟩
      walk_at "st"
      refine ExG.out (w_isE3 ?_)
      walk_at "st"
      refine w_mIsE3 (b := false) (by decide +kernel) ?_
      walk_at "st"
      exact h
    · walk_at "st"
      refine ⟨g, B, rfl, ok, an, fun _ => ?_, fun is e r => absurd ⟨is, e, r⟩ no⟩
      walk_at "st"
      refine ExG.out (w_isE3 ?_)
      walk_at "st"
      refine w_mIsE3 (b := false) (by decide +kernel) ?_
      walk_at "st"
      exact h
  · exact h.elim
theorem ok_L_refused (T : Tx P K mg) : FnG P w K mg base 10 T.f_L_refused T.d_L_refused ["_law_door", "_law_own", "_law_thing"] (spD K sp_L_refused) := by
  have G_p_places_ordered := ok_p_places_ordered (P := P) (w := w) (base := base) T
  have G_p_numbers_ordered := ok_p_numbers_ordered (P := P) (w := w) (base := base) T
  have X_p_numbers_ordered := okx_p_numbers_ordered (P := P) (w := w) (base := base) T
  have X_p_places_ordered := okx_p_places_ordered (P := P) (w := w) (base := base) T
  exact fnG_of (k := 9) (t := t_L_refused) T.F_L_refused sc_L_refused len_L_refused
    (fun cdv A outer s H hr => pds_cons (pds_set (i := 3) sc_L_refused.nd rfl (.inl rfl) (pd_non)) (pds_cons (pds_try (i := 4) (j := 3) ⟨rfl, by decide, .inl T.gx_WeighError⟩ (mlE_b T.x_NoOrder T.x_WeighError T.m_NoOrder_WeighError (mlE_nil)) (fun W q xe tk po => px_one (px_exprZ (fun Z => pdz_pick2 tk X_p_places_ordered X_p_numbers_ordered (hr.mono (by decide)) (hr.mono (by decide)) rfl T.g_p_places_ordered T.F_p_places_ordered.kp T.b_p_places_ordered_2 rfl T.g_p_numbers_ordered T.F_p_numbers_ordered.kp T.b_p_numbers_ordered_2 (pd_var 0) (pda_cons (pd_var 1) (pda_cons (pd_var 2) (pda_nil)))))) (fun a q => pss_one (ps_set sc_L_refused.nd rfl (.inl rfl) (pe_var rfl (.inl rfl)))) sc_L_refused.nd rfl rfl (by decide)) (pds_cons (pds_if (pdt_cmp op_isD opd_is (pd_var 3) (pd_non)) (pds_one (pds_ret (pd_bl))) (pds_nil)) (pds_one (pds_ret (pd_and (pd_isE (cw := .ref T.e_NoOrder) (v2 := .ref T.e_NoOrder) (T.kt_NoOrder) (fun u hu => hu) (pe_glob rfl T.gx_NoOrder rfl) rfl T.n_isinstance (pd_var 3)) (pd_one (pd_not (pd_isE3 (w1 := .ref T.e_NoNumber) (w2 := .ref T.e_NoProgram) (w3 := .ref T.e_NoRow) (v1 := .ref T.e_NoNumber) (v2 := .ref T.e_NoProgram) (v3 := .ref T.e_NoRow) (T.kt_NoNumber) (T.kt_NoProgram) (T.kt_NoRow) (fun u hu => hu) (fun u hu => hu) (fun u hu => hu) (pe_glob rfl T.gx_NoNumber rfl) (pe_glob rfl T.gx_NoProgram rfl) (pe_glob rfl T.gx_NoRow rfl) rfl T.n_isinstance (pd_var 3))))))))))
    sem_L_refused
/-- what is no order of so many -/
structure Bad (m : Nat) (x : D) : Prop where
  an : x = .edic ∨ Any false 110 1000 3 x
  no : ¬ Ord m x
theorem Bad.any {m : Nat} {x : D} (h : Bad m x) : AnyX 110 x := by
  rcases h.an with rfl | h
  · exact ⟨0, .edic rfl⟩
  · exact ⟨3, h.mono (fun z => by cases z) (Nat.le_refl _) (Nat.le_refl _) (Nat.le_refl _)⟩
theorem Bad.eq {m : Nat} {x d : D} {ys : List D} {ms : MS} {P : D → MS → Prop} (h : Bad m x) (hs : ShD (.lst (d :: ys))) (q : ∀ b, P (.bl b) ms) : fEqX x (.lst (d :: ys)) ms P := by
  rcases h.an with rfl | h
  · exact q false
  · have sh := h.sh (by decide)
    cases x with
    | edic => exact q false
    | _ => exact ⟨sh, hs, q _⟩
def sp_L_no_order : FS := fun ds ms P => match ds with
  | [.opq (.ref p), .lst ys] => ∃ is : List Nat, ys = natL is ∧ PoolAt ms p ∧ is.Perm (List.range is.length) ∧ 1 ≤ is.length ∧ is.length ≤ 6 ∧ ∀ x, Bad is.length x → ∀ ms', PoolAt ms' p → Chg ms p ms' → P x ms'
  | _ => False
theorem len_L_no_order : ∀ ds ms Q, sp_L_no_order ds ms Q → ds.length = 2 := fun ds ms Q h => by
  unfold sp_L_no_order at h
  split at h <;> first | rfl | exact h.elim
def t_L_no_order : DTS := dSeq (dAsg (dCall 2 0 [0, 1] sp_L_take (aCons (dVar 0) (aCons (dCB cLen (aCons (dVar 1) (aNil))) (aNil))) (aNil)) (sName 2)) (dSeq (dAsg (dCB cLen (aCons (dVar 1) (aNil))) (sName 3)) (dSeq (dAsg (dOp fIx (dLst (aCons (dVar 3) (aCons (dNeg (dC (.int 1))) (aCons (dC (.bl true)) (aCons (dC .non) (aCons (dC (.str "0")) (aCons (dLst (aCons (dC (.int 0)) (aNil))) (aCons (dOp fPow (dC (.int 10)) (dC (.int 20))) (aNil))))))))) (dCall 2 0 [0, 1] sp_L_take (aCons (dVar 0) (aCons (dC (.int 7)) (aNil))) (aNil))) (sName 4)) (dSeq (dAsg (dLst (aCons (dOp fAdd (dOp fAdd (dSl (dVar 1) (oNone) (oSome (dVar 2))) (dLst (aCons (dVar 4) (aNil)))) (dSl (dVar 1) (oSome (dOp fAdd (dVar 2) (dC (.int 1)))) (oNone))) (aCons (dOp fAdd (dOp fAdd (dSl (dVar 1) (oNone) (oSome (dVar 2))) (dLst (aCons (dVar 4) (aNil)))) (dSl (dVar 1) (oSome (dOp fAdd (dVar 2) (dC (.int 1)))) (oNone))) (aCons (dCB cTuple (aCons (dVar 1) (aNil))) (aCons (dSl (dVar 1) (oSome (dC (.int 1))) (oNone)) (aCons (dC .non) (aNil))))))) (sName 5)) (dRet (dOp fIx (dOp fAdd (dVar 5) (dLst (aCons (dOp fAdd (dVar 1) (dLst (aCons (dVar 3) (aNil)))) (aCons (dOp fAdd (dVar 1) (dSl (dVar 1) (oNone) (oSome (dC (.int 1))))) (aCons (dEdic) (aCons (dC (.str "01")) (aCons (dVar 3) (aNil)))))))) (dCall 2 0 [0, 1] sp_L_take (aCons (dVar 0) (aCons (dC (.int 10)) (aNil))) (aNil)))))))
theorem at_memD {xs : List D} {r : Int} (h0 : 0 ≤ r) (h1 : r < (xs.length : Int)) : ∃ d, atI xs r = some d ∧ d ∈ xs := by
  obtain ⟨j, rfl⟩ : ∃ j : Nat, r = (j : Int) := ⟨r.toNat, by omega⟩
  have hj : j < xs.length := by omega
  exact ⟨_, atI_nat (List.getElem?_eq_getElem hj), List.getElem_mem hj⟩
theorem t20 : (10 : Int) ^ Int.toNat 20 = 100000000000000000000 := by decide +kernel
theorem no_ord {m : Nat} {xs : List D} {x : D} (hx : x ∈ xs) (h : isAt m x = false) : ¬ Ord m (.lst xs) := fun ⟨is, e, l⟩ => by
  unfold natsD at e
  injection e with e
  rw [e] at hx
  obtain ⟨k, hk, rfl⟩ := List.mem_map.mp hx
  have := Ord.lt l k hk
  have e2 : isAt m (.int (k : Int)) = true := by
    show (decide (0 ≤ (k : Int)) && decide ((k : Int) < m)) = true
    rw [decide_eq_true (by omega), decide_eq_true (by omega)]; rfl
  rw [e2] at h; cases h
theorem no_len {m : Nat} {xs : List D} (h : xs.length ≠ m) : ¬ Ord m (.lst xs) := fun ⟨is, e, l⟩ => by
  unfold natsD at e
  injection e with e
  refine h ?_
  rw [e]
  unfold natL
  rw [List.length_map]
  have := Ord.len l
  omega
theorem sem_L_no_order : ∀ ds ms Q, sp_L_no_order ds ms Q → t_L_no_order { nx := fun _ m => Q .non m, rt := Q } (startD 6 ds) ms := by
  intro ds ms Q h
  unfold sp_L_no_order at h
  split at h
  · rename_i p ys
    obtain ⟨is, rfl, hp, pm, l1, l6, h⟩ := h
    have ln : (natL is).length = is.length := List.length_map ..
    have ai : ∀ (k : Nat) (i : Int), Bd 100 i → Any false 110 1000 k (.int i) := fun k i hi => .int (hi.mono (by decide))
    have an : ∀ x ∈ natL is, Any false 110 1000 2 x := fun x hx => by
      obtain ⟨k, hk, rfl⟩ := List.mem_map.mp hx
      have := Ord.lt pm k hk
      exact ai _ _ ((show Bd 4 (k : Int) by unfold Bd; omega).mono (by decide))
    have am : ∀ k, Any false 110 1000 k (.int (is.length : Int)) := fun k => ai _ _ ((show Bd 4 (is.length : Int) by unfold Bd; omega).mono (by decide))
    have nm : isAt is.length (.int (is.length : Int)) = false := by
      show (decide (0 ≤ (is.length : Int)) && decide ((is.length : Int) < (is.length : Int))) = false
      rw [decide_eq_false (p := (is.length : Int) < (is.length : Int)) (by omega), Bool.and_false]
    simp only [startD]
    unfold t_L_no_order
    walk_at "st"
    rw [ln]
    refine take_step hp (by omega) (by omega) fun at_ a1 b1 m1 p1 c1 => ?_
    obtain ⟨j, rfl⟩ : ∃ j : Nat, at_ = (j : Int) := ⟨at_.toNat, by omega⟩
    have hj : j < is.length := by omega
    walk_at "st"
    refine w_pow (by decide) t20 ?_
    walk_at "st"
    rw [ln]
    refine take_step p1 (by decide) (by decide) fun r a2 b2 m2 p2 c2 => ?_
    obtain ⟨odd, eo, ho⟩ := at_memD (xs := [D.int (is.length : Int), .int (-1), .bl true, .non, .str "0", .lst [.int 0], .int 100000000000000000000]) a2 b2
    have oddOk : Any false 110 1000 2 odd ∧ isAt is.length odd = false := by
      simp only [List.mem_cons, List.not_mem_nil, or_false] at ho
      rcases ho with rfl | rfl | rfl | rfl | rfl | rfl | rfl
      · exact ⟨am _, nm⟩
      · exact ⟨ai _ _ (by unfold Bd; decide), rfl⟩
      · exact ⟨.bl _, rfl⟩
      · exact ⟨.non, rfl⟩
      · exact ⟨.str (by decide) (by decide +kernel), rfl⟩
      · exact ⟨.lst (by simp) fun x hx => by rw [List.mem_singleton.mp hx]; exact ai _ _ (by unfold Bd; decide), rfl⟩
      · refine ⟨ai _ _ (by unfold Bd; decide), ?_⟩
        show (decide (0 ≤ (100000000000000000000 : Int)) && decide ((100000000000000000000 : Int) < (is.length : Int))) = false
        rw [decide_eq_false (p := (100000000000000000000 : Int) < (is.length : Int)) (by omega), Bool.and_false]
    obtain ⟨ao, no⟩ := oddOk
    walk_at "st"
    refine w_ix_l eo ?_
    walk_at "st"
    rw [cut_to _ _ (by omega : j ≤ (natL is).length)]
    have s1 : ((natL is).take j).length = j := by rw [List.length_take]; omega
    have s2 : ((natL is).drop (j + 1)).length ≤ 10 := by rw [List.length_drop]; omega
    refine ⟨size_ok (by rw [s1, List.length_singleton]; omega), ?_⟩
    walk_at "st"
    rw [cutL_from _ _ (by omega), show ((j : Int) + 1).toNat = j + 1 by omega]
    refine ⟨size_ok (by rw [List.length_append, s1, List.length_singleton]; omega), ?_⟩
    walk_at "st"
    rw [cut_to _ _ (by omega : j ≤ (natL is).length)]
    refine ⟨size_ok (by rw [s1, List.length_singleton]; omega), ?_⟩
    walk_at "st"
    rw [cutL_from _ _ (by omega), show ((j : Int) + 1).toNat = j + 1 by omega]
    refine ⟨size_ok (by rw [List.length_append, s1, List.length_singleton]; omega), ?_⟩
    walk_at "st"
    rw [cutL_from _ _ (by decide)]
    have s3 : ((natL is).drop (1 : Int).toNat).length + 1 = is.length := by rw [List.length_drop, ln]; show is.length - 1 + 1 = _; omega
    refine ⟨size_ok (by rw [ln, List.length_singleton]; omega), ?_⟩
    walk_at "st"
    have e1 : cutL (natL is) none (some 1) = (natL is).take 1 := cutL_to _ _ (by decide)
    have s4 : ((natL is).take 1).length = 1 := by rw [List.length_take, ln]; omega
    rw [e1]
    refine ⟨size_ok (by rw [ln, s4]; omega), ?_⟩
    walk_at "st"
    refine take_step p2 (by decide) (by decide) fun r3 a3 b3 m3 p3 c3 => ?_
    obtain ⟨x, ex, hx⟩ := at_memD (r := r3) (xs := [D.lst ((natL is).take j ++ [odd] ++ (natL is).drop (j + 1)), .lst ((natL is).take j ++ [odd] ++ (natL is).drop (j + 1)), .tup (natL is), .lst ((natL is).drop (1 : Int).toNat), .non] ++ [D.lst (natL is ++ [D.int (is.length : Int)]), D.lst (natL is ++ (natL is).take 1), .edic, .str "01", .int (is.length : Int)]) a3 (by exact b3)
    walk_at "st"
    refine w_ix_l ex ?_
    walk_at "st"
    refine h x ?_ m3 p3 ((c1.trans c2).trans c3)
    have al : ∀ {a b c : List D}, a.length + b.length + c.length ≤ 1000 → (∀ x ∈ a, Any false 110 1000 2 x) → (∀ x ∈ b, Any false 110 1000 2 x) → (∀ x ∈ c, Any false 110 1000 2 x) → Any false 110 1000 3 (.lst (a ++ b ++ c)) := fun {a b c} hl ha hb hc => by
      refine .lst (by rw [List.length_append, List.length_append]; omega) fun x hx => ?_
      simp only [List.mem_append] at hx
      rcases hx with (hx | hx) | hx
      · exact ha x hx
      · exact hb x hx
      · exact hc x hx
    have odd1 : ∀ x ∈ [odd], Any false 110 1000 2 x := fun x hx => List.mem_singleton.mp hx ▸ ao
    have nil0 : ∀ x ∈ ([] : List D), Any false 110 1000 2 x := fun x hx => by cases hx
    have tk : ∀ n, ∀ x ∈ (natL is).take n, Any false 110 1000 2 x := fun n x hx => an x (List.mem_of_mem_take hx)
    have dr : ∀ n, ∀ x ∈ (natL is).drop n, Any false 110 1000 2 x := fun n x hx => an x (List.mem_of_mem_drop hx)
    simp only [List.mem_append, List.mem_cons, List.not_mem_nil, or_false] at hx
    rcases hx with (rfl | rfl | rfl | rfl | rfl) | (rfl | rfl | rfl | rfl | rfl)
    · exact ⟨.inr (al (by rw [s1, List.length_singleton]; omega) (tk _) odd1 (dr _)), no_ord (x := odd) (by simp) no⟩
    · exact ⟨.inr (al (by rw [s1, List.length_singleton]; omega) (tk _) odd1 (dr _)), no_ord (x := odd) (by simp) no⟩
    · exact ⟨.inr (.tup (by omega) an), fun ⟨_, e, _⟩ => by cases e⟩
    · refine ⟨.inr ?_, no_len (by omega)⟩
      have := al (a := (natL is).drop (1 : Int).toNat) (b := []) (c := []) (by simp only [List.length_nil]; omega) (dr _) nil0 nil0
      rwa [List.append_nil, List.append_nil] at this
    · exact ⟨.inr .non, fun ⟨_, e, _⟩ => by cases e⟩
    · refine ⟨.inr ?_, no_ord (x := .int (is.length : Int)) (by simp) nm⟩
      have := al (a := natL is) (b := [.int (is.length : Int)]) (c := []) (by simp only [List.length_nil, List.length_singleton]; omega) an (fun x hx => List.mem_singleton.mp hx ▸ am _) nil0
      rwa [List.append_nil] at this
    · refine ⟨.inr ?_, no_len (by rw [List.length_append, s4]; omega)⟩
      have := al (a := natL is) (b := (natL is).take 1) (c := []) (by simp only [List.length_nil]; omega) an (tk _) nil0
      rwa [List.append_nil] at this
    · exact ⟨.inl rfl, fun ⟨_, e, _⟩ => by cases e⟩
    · exact ⟨.inr (.str (by decide) (by decide +kernel)), fun ⟨_, e, _⟩ => by cases e⟩
    · exact ⟨.inr (am _), fun ⟨_, e, _⟩ => by cases e⟩
  · exact h.elim
theorem ok_L_no_order (T : Tx P K mg) : FnG P w K mg base 2 T.f_L_no_order T.d_L_no_order ["_law_pool_here", "_law_led"] (spD K sp_L_no_order) := by
  have G_L_take := ok_L_take (P := P) (w := w) (base := base) T
  exact fnG_of (k := 1) (t := t_L_no_order) T.F_L_no_order sc_L_no_order len_L_no_order
    (fun cdv A outer s H hr => pds_cons (pds_set (i := 2) sc_L_no_order.nd rfl (.inl rfl) (pd_call G_L_take (hr.mono (by decide)) rfl T.g_L_take T.F_L_take.kp T.b_L_take_2 (pda_cons (pd_var 0) (pda_cons (pd_callB call_len cal_len rfl T.n_len (by decide +kernel) (pda_cons (pd_var 1) (pda_nil))) (pda_nil))))) (pds_cons (pds_set (i := 3) sc_L_no_order.nd rfl (.inl rfl) (pd_callB call_len cal_len rfl T.n_len (by decide +kernel) (pda_cons (pd_var 1) (pda_nil)))) (pds_cons (pds_set (i := 4) sc_L_no_order.nd rfl (.inl rfl) (pd_ix ix_seq opd_ix (pd_lst (pda_cons (pd_var 3) (pda_cons (pd_neg (pd_int)) (pda_cons (pd_bl) (pda_cons (pd_non) (pda_cons (pd_str) (pda_cons (pd_lst (pda_cons (pd_int) (pda_nil))) (pda_cons (pd_op op_pow opd_pow (pd_int) (pd_int)) (pda_nil))))))))) (pd_call G_L_take (hr.mono (by decide)) rfl T.g_L_take T.F_L_take.kp T.b_L_take_2 (pda_cons (pd_var 0) (pda_cons (pd_int) (pda_nil)))))) (pds_cons (pds_set (i := 5) sc_L_no_order.nd rfl (.inl rfl) (pd_lst (pda_cons (pd_op op_addD opd_add (pd_op op_addD opd_add (pd_slice (pd_var 1) (pdo_none) (pdo_some (pd_var 2))) (pd_lst (pda_cons (pd_var 4) (pda_nil)))) (pd_slice (pd_var 1) (pdo_some (pd_op op_addD opd_add (pd_var 2) (pd_int))) (pdo_none))) (pda_cons (pd_op op_addD opd_add (pd_op op_addD opd_add (pd_slice (pd_var 1) (pdo_none) (pdo_some (pd_var 2))) (pd_lst (pda_cons (pd_var 4) (pda_nil)))) (pd_slice (pd_var 1) (pdo_some (pd_op op_addD opd_add (pd_var 2) (pd_int))) (pdo_none))) (pda_cons (pd_callTy call_tuple_of cal_tuple rfl T.n_tuple (by decide +kernel) (pda_cons (pd_var 1) (pda_nil))) (pda_cons (pd_slice (pd_var 1) (pdo_some (pd_int)) (pdo_none)) (pda_cons (pd_non) (pda_nil)))))))) (pds_one (pds_ret (pd_ix ix_seq opd_ix (pd_op op_addD opd_add (pd_var 5) (pd_lst (pda_cons (pd_op op_addD opd_add (pd_var 1) (pd_lst (pda_cons (pd_var 3) (pda_nil)))) (pda_cons (pd_op op_addD opd_add (pd_var 1) (pd_slice (pd_var 1) (pdo_none) (pdo_some (pd_int)))) (pda_cons (pd_dict0) (pda_cons (pd_str) (pda_cons (pd_var 3) (pda_nil)))))))) (pd_call G_L_take (hr.mono (by decide)) rfl T.g_L_take T.F_L_take.kp T.b_L_take_2 (pda_cons (pd_var 0) (pda_cons (pd_int) (pda_nil)))))))))))
    sem_L_no_order
/-- each of these lists with one more -/
def appN : List Addr → MS → MS
  | [], m => m
  | a :: r, m => appN r (put m a ((look m a).getD [] ++ [.non]))
def sp_L_apart : FS := fun ds ms P => match ds with
  | [t] => ∃ (g : Pg) (L ms0 : MS) (n p q : Addr) (xs : List LR) (B : Nat), ms = L ++ ms0 ∧ PgL g t L n p q xs ∧ Frsh L ms0 ∧ PgOk B g ∧ ∀ M, flatM M → Frsh M ms0 → P (.bl true) (M ++ ms0)
  | _ => False
theorem len_L_apart : ∀ ds ms Q, sp_L_apart ds ms Q → ds.length = 1 := fun ds ms Q h => by
  unfold sp_L_apart at h
  split at h <;> first | rfl | exact h.elim
def t_L_apart_c1 : DTS := dSeq (dFrzS 1 (dAsg (dCB cSum (aCons (dLc (iSeq (dVar 1)) (sName 3) (dYes) (dCB cLen (aCons (dVar 3) (aNil))) [3]) (aNil))) (sName 4))) (dSeq (dFor (iEnumD (aCons (dVar 1) (aNil))) (sTup 2 (sCons (sName 5) (sCons (sName 3) (sNil)))) (dSeq (dDrop (dAppend (dVar 3) (aCons (dC .non) (aNil)))) (dIfS (dTest (dOp fNe (dCB cSum (aCons (dLc (iSeq (dVar 1)) (sName 8) (dYes) (dCB cLen (aCons (dVar 8) (aNil))) [8]) (aNil))) (dOp fAdd (dOp fAdd (dVar 4) (dVar 5)) (dC (.int 1))))) (dRet (dC (.bl false))) (dNext)))) (dRet (dC (.bl true))))
def t_L_apart : DTS := dSeq (dAsg (dCB cListM (aCons (dVar 0) (aNil))) (sName 1)) (dSeq (dForE (dOp fIx (dVar 0) (dC (.int 2))) (sName 2) (dSeq (dDrop (dAppend (dVar 1) (aCons (dOp fIx (dVar 2) (dC (.int 2))) (aNil)))) (dFrzS 1 (dAsg (dOp fAddM (dVar 1) (dLcE (dOp fIx (dVar 2) (dC (.int 2))) (sTup 2 (sCons (sName 6) (sCons (sName 7) (sNil)))) (dYes) (dVar 7) [6, 7])) (sName 1))))) (t_L_apart_c1))
theorem loop_lV {α : Type} {g : DG} {tb : DTS} {E : EN} (e : α → D) (all : List α) (I : List α → DS → MS → Prop) : ∀ (xs pre : List α) (ds : DS) (ms : MS), pre ++ xs = all → I pre ds ms →
    (∀ pre x rest ds ms, pre ++ x :: rest = all → I pre ds ms → ∀ N : DS → MS → Prop, (∀ ds' ms', I (pre ++ [x]) ds' ms' → N ds' ms') → g (e x) ds fun ds1 => tb (EN.lp E N) ds1 ms) →
    (∀ ds ms, I all ds ms → E.nx ds ms) → loopD g tb E (xs.map e) ds ms
  | [], pre, ds, ms, ha, h, _, q => q ds ms (by rw [List.append_nil] at ha; rw [← ha]; exact h)
  | x :: r, pre, ds, ms, ha, h, t, q => t pre x r ds ms ha h _ fun ds' ms' h' => loop_lV e all I r (pre ++ [x]) ds' ms' (by rw [List.append_assoc]; exact ha) h' t q
theorem frsh_iff : ∀ {L ms : MS}, Frsh L ms ↔ (L.map (·.1)).Nodup ∧ ∀ q ∈ L, ∀ e ∈ ms, e.1 ≠ q.1
  | [], ms => ⟨fun _ => ⟨List.nodup_nil, fun q h => by cases h⟩, fun _ => trivial⟩
  | q :: L, ms => by
    refine ⟨fun h => ⟨frsh_nd h, frsh_off h⟩, fun ⟨h1, h2⟩ => ?_⟩
    rw [List.map_cons, List.nodup_cons] at h1
    refine ⟨fun e he z => ?_, frsh_iff.mpr ⟨h1.2, fun r hr => h2 r (List.mem_cons_of_mem _ hr)⟩⟩
    rcases List.mem_append.mp he with he | he
    · exact h1.1 (by rw [← z]; exact List.mem_map_of_mem he)
    · exact h2 q List.mem_cons_self e he z
theorem frsh_perm {L M ms : MS} (p : L.Perm M) (h : Frsh L ms) : Frsh M ms := by
  obtain ⟨h1, h2⟩ := frsh_iff.mp h
  exact frsh_iff.mpr ⟨(p.map _).nodup_iff.mp h1, fun q hq => h2 q (p.mem_iff.mpr hq)⟩
theorem drp_in {a : Addr} {ys : List D} : ∀ {L ms : MS}, Frsh L ms → (a, ys) ∈ L → ∃ L', drp (L ++ ms) a = L' ++ ms ∧ ((a, ys) :: L').Perm L
  | [], _, _, h => by cases h
  | (b, zs) :: L, ms, ⟨h1, h2⟩, h => by
    by_cases e : b = a
    · subst e
      rcases List.mem_cons.mp h with z | h
      · cases z
        exact ⟨L, by show drp ((b, ys) :: (L ++ ms)) b = _; unfold drp; rw [if_pos rfl], .refl _⟩
      · exact absurd rfl (h1 (b, ys) (List.mem_append_left _ h))
    · rcases List.mem_cons.mp h with z | h
      · cases z; exact absurd rfl e
      · obtain ⟨L', e1, e2⟩ := drp_in h2 h
        refine ⟨(b, zs) :: L', ?_, (List.Perm.swap _ _ _).trans (e2.cons _)⟩
        show drp ((b, zs) :: (L ++ ms)) a = _
        conv => lhs; unfold drp
        rw [if_neg e, e1]; rfl
theorem app_part : ∀ {as : List Addr} {M ms : MS}, (∀ a ∈ as, a ∈ M.map (·.1)) → Frsh M ms → flatM M → ∃ M', appN as (M ++ ms) = M' ++ ms ∧ Frsh M' ms ∧ flatM M'
  | [], M, ms, _, h, k => ⟨M, rfl, h, k⟩
  | a :: r, M, ms, ha, h, k => by
    have hm := ha a List.mem_cons_self
    obtain ⟨e, he, ea⟩ := List.mem_map.mp hm
    have lk : look (M ++ ms) a = some e.2 := look_in h (by rw [← ea]; exact he)
    have fl : flats (e.2 ++ [.non]) = true := flats_app (k e he) rfl
    obtain ⟨M', e1, e2, e3⟩ := app_part (as := r) (M := put M a (e.2 ++ [.non])) (ms := ms) (fun b hb => by rw [put_adr]; exact ha b (List.mem_cons_of_mem _ hb)) (frsh_map (put_adr a _ M) h) (put_flat k fl)
    refine ⟨M', ?_, e2, e3⟩
    show appN r (put (M ++ ms) a ((look (M ++ ms) a).getD [] ++ [.non])) = _
    rw [lk]
    show appN r (put (M ++ ms) a (e.2 ++ [.non])) = _
    rw [put_app hm]
    exact e1
theorem appN_snoc (a : Addr) : ∀ (as : List Addr) (m : MS), appN (as ++ [a]) m = put (appN as m) a ((look (appN as m) a).getD [] ++ [.non])
  | [], _ => rfl
  | b :: r, m => appN_snoc a r _
theorem appN_off {b : Addr} : ∀ {as : List Addr} {m : MS}, b ∉ as → look (appN as m) b = look m b
  | [], _, _ => rfl
  | a :: r, m, h => by
    show look (appN r _) b = _
    rw [appN_off fun z => h (List.mem_cons_of_mem _ z), look_put_ne fun z => h (by rw [z]; exact List.mem_cons_self)]
theorem appN_in {b : Addr} {ys : List D} : ∀ {as : List Addr} {m : MS}, as.Nodup → b ∈ as → look m b = some ys → look (appN as m) b = some (ys ++ [.non])
  | [], _, _, h, _ => by cases h
  | a :: r, m, nd, h, e => by
    obtain ⟨n1, n2⟩ := List.nodup_cons.mp nd
    show look (appN r _) b = _
    by_cases z : a = b
    · subst z
      rw [appN_off n1, look_put_same e, e]; rfl
    · rcases List.mem_cons.mp h with y | h
      · exact absurd y.symm z
      · exact appN_in n2 h (by rw [look_put_ne z]; exact e)
def lenA (m : MS) (a : Addr) : Int := (((look m a).getD []).length : Nat)
theorem sum_more {m m' : MS} {as : List Addr} (f : Addr → Int) (h : ∀ a ∈ as, lenA m' a = lenA m a + f a) : ((as.map fun a => lenA m' a)).sum = ((as.map fun a => lenA m a)).sum + (as.map f).sum := by
  induction as with
  | nil => rfl
  | cons a r ih =>
    rw [List.map_cons, List.map_cons, List.map_cons, List.sum_cons, List.sum_cons, List.sum_cons, ih fun b hb => h b (List.mem_cons_of_mem _ hb), h a List.mem_cons_self]
    omega
theorem sum_pre {pre rest : List Addr} (nd : (pre ++ rest).Nodup) : (((pre ++ rest).map fun a => if a ∈ pre then (1 : Int) else 0)).sum = pre.length := by
  have h1 : ∀ a ∈ rest, a ∉ pre := fun a ha z => (List.nodup_append.mp nd).2.2 a z a ha rfl
  have e1 : (pre.map fun a => if a ∈ pre then (1 : Int) else 0) = pre.map fun _ => 1 := List.map_congr_left fun a ha => if_pos ha
  have e2 : (rest.map fun a => if a ∈ pre then (1 : Int) else 0) = rest.map fun _ => 0 := List.map_congr_left fun a ha => if_neg (h1 a ha)
  have s1 : ∀ xs : List Addr, ((xs.map fun _ => (1 : Int))).sum = xs.length := fun xs => by
    induction xs with
    | nil => rfl
    | cons x r ih => rw [List.map_cons, List.sum_cons, ih, List.length_cons]; omega
  have s2 : ∀ xs : List Addr, ((xs.map fun _ => (0 : Int))).sum = 0 := fun xs => by
    induction xs with
    | nil => rfl
    | cons x r ih => rw [List.map_cons, List.sum_cons, ih]; rfl
  rw [List.map_append, List.sum_append, e1, e2, s1, s2]; omega
theorem sum_app {m : MS} {pre rest : List Addr} (nd : (pre ++ rest).Nodup) (h : ∀ a ∈ pre ++ rest, ∃ ys, look m a = some ys) : ((pre ++ rest).map fun a => lenA (appN pre m) a).sum = ((pre ++ rest).map fun a => lenA m a).sum + pre.length := by
  rw [sum_more (m := m) (m' := appN pre m) (fun a => if a ∈ pre then 1 else 0) fun a ha => ?_, sum_pre nd]
  obtain ⟨ys, e⟩ := h a ha
  unfold lenA
  by_cases z : a ∈ pre
  · rw [appN_in (List.nodup_append.mp nd).1 z e, e, if_pos z, Option.getD_some, Option.getD_some, List.length_append, List.length_singleton]; omega
  · rw [appN_off z, e, if_neg z]; omega
theorem intsOf_map (is : List Int) : intsOf (is.map D.int) = some is := by
  induction is with
  | nil => rfl
  | cons i r ih => rw [List.map_cons]; show (intsOf (r.map D.int)).map (i :: ·) = _; rw [ih]; rfl
theorem enumD_at {α : Type} (e : α → D) (xs : List α) : enumD (xs.map e) = (xs.zipIdx).map fun p => .tup [.int (p.2 : Int), e p.1] := by
  unfold enumD rng
  refine List.ext_getElem? fun i => ?_
  rw [List.getElem?_zipWith, List.getElem?_map, List.getElem?_map, List.getElem?_map, List.getElem?_zipIdx, List.length_map]
  by_cases h : i < xs.length
  · rw [List.getElem?_range h, List.getElem?_eq_getElem h]
    show some (D.tup [.int (0 + (i : Int)), e xs[i]]) = some (.tup [.int ((0 + i : Nat) : Int), e xs[i]])
    rw [Int.zero_add, Nat.zero_add]
  · rw [List.getElem?_eq_none (by rw [List.length_range]; omega), List.getElem?_eq_none (by omega)]; rfl
theorem zipIdx_split {α : Type} {xs : List α} {pre rest : List (α × Nat)} {x : α × Nat} (h : pre ++ x :: rest = xs.zipIdx) : x.2 = pre.length ∧ xs = pre.map (·.1) ++ x.1 :: rest.map (·.1) := by
  have e1 : (xs.zipIdx).map (·.1) = xs := List.zipIdx_map_fst ..
  have e2 : (xs.zipIdx)[pre.length]? = some x := by rw [← h, List.getElem?_append_right (Nat.le_refl _), Nat.sub_self]; rfl
  refine ⟨?_, ?_⟩
  · rw [List.getElem?_zipIdx] at e2
    cases e3 : xs[pre.length]? with
    | none => rw [e3] at e2; cases e2
    | some y => rw [e3] at e2; cases e2; show 0 + pre.length = _; omega
  · rw [← e1, ← h, List.map_append, List.map_cons]
theorem ne_selfI (z : Int) : (!(z == z)) = false := by simp
/-- the second half of apart: each of these lists with one more -/
theorem apart_rest {Q : D → MS → Prop} {as : List Addr} {m : MS} {x0 x2 x3 x4 x5 x6 x7 x8 : Option D} (nd : as.Nodup) (hl : as.length ≤ 1000) (hy : ∀ a ∈ as, ∃ ys, look m a = some ys ∧ ys.length ≤ 1000) (h : Q (.bl true) (appN as m)) {s : Addr} {ms : MS} (lk : look ms s = some (as.map fun a => D.opq (.ref a))) (dr : drp ms s = m) :
    t_L_apart_c1 { nx := fun _ m => Q .non m, rt := Q } [x0, some (.opq (.ref s)), x2, x3, x4, x5, x6, x7, x8] ms := by
  unfold t_L_apart_c1
  refine w_seq ?_
  refine StG.out (w_frzS rfl lk rfl dr ?_)
  walk_at "st"
  simp only [wipeD, List.set]
  have le : ∀ a ∈ as, ∃ ys, look m a = some ys := fun a ha => (hy a ha).elim fun ys h => ⟨ys, h.1⟩
  refine comp_e (fun a => D.opq (.ref a)) (fun a => D.int (lenA m a)) as [] _ (by rw [List.length_nil]; omega) (fun a ha P0 q => ?_) ?_
  · obtain ⟨ys, e, _⟩ := hy a ha
    walk_at "st"
    refine CbG.out (w_len_o e ?_)
    have : lenA m a = (ys.length : Int) := by unfold lenA; rw [e]; rfl
    rw [this] at q
    exact q
  rw [List.nil_append, show (as.map fun a => D.int (lenA m a)) = (as.map fun a => lenA m a).map D.int by rw [List.map_map]; rfl]
  walk_at "st"
  refine w_sum (intsOf_map _) ?_
  walk_at "st"
  rw [enumD_at]
  refine loop_lV (fun p : Addr × Nat => D.tup [.int (p.2 : Int), .opq (.ref p.1)]) as.zipIdx (fun pre ds m' => m' = appN (pre.map (·.1)) m ∧ ∃ x2 x3 x5 x6 x7 x8, ds = [x0, some (.lst (as.map fun a => D.opq (.ref a))), x2, x3, some (.int (as.map fun a => lenA m a).sum), x5, x6, x7, x8]) as.zipIdx [] _ _ rfl ⟨rfl, _, _, _, _, _, _, rfl⟩ ?_ ?_
  · rintro pre ⟨a, i⟩ rest ds m' hsplit ⟨rfl, y2, y3, y5, y6, y7, y8, rfl⟩ N hN
    obtain ⟨rfl, ea⟩ := zipIdx_split hsplit
    dsimp only at ea ⊢
    have hin : a ∈ as := by rw [ea]; simp
    have ea2 : as = (pre ++ [(a, pre.length)]).map (·.1) ++ rest.map (·.1) := by rw [List.map_append, List.append_assoc]; exact ea
    have hn : a ∉ pre.map (·.1) := fun z => by
      rw [ea] at nd
      exact (List.nodup_append.mp nd).2.2 a z a List.mem_cons_self rfl
    obtain ⟨ys, e, l⟩ := hy a hin
    have e2 : look (appN (pre.map (·.1)) m) a = some ys := by rw [appN_off hn]; exact e
    walk_at "st"
    refine ⟨Nat.lt_of_lt_of_le (by omega : ys.length < 2000) (by decide), ?_⟩
    walk_at "st"
    have em : put (appN (pre.map (·.1)) m) a (ys ++ [.non]) = appN ((pre ++ [(a, pre.length)]).map (·.1)) m := by
      rw [List.map_append, List.map_singleton, appN_snoc, e2]; rfl
    rw [em]
    have lk3 : ∀ b ∈ as, ∃ zs, look (appN ((pre ++ [(a, pre.length)]).map (·.1)) m) b = some zs := fun b hb => by
      obtain ⟨zs, ez⟩ := le b hb
      by_cases hz : b ∈ (pre ++ [(a, pre.length)]).map (·.1)
      · exact ⟨_, appN_in (by rw [ea2] at nd; exact (List.nodup_append.mp nd).1) hz ez⟩
      · exact ⟨_, (appN_off hz).trans ez⟩
    simp only [wipeD, List.set]
    refine comp_e (fun a => D.opq (.ref a)) (fun b => D.int (lenA (appN ((pre ++ [(a, pre.length)]).map (·.1)) m) b)) as [] _ (by rw [List.length_nil]; omega) (fun b hb P0 q => ?_) ?_
    · obtain ⟨zs, ez⟩ := lk3 b hb
      walk_at "st"
      refine CbG.out (w_len_o ez ?_)
      have : lenA (appN ((pre ++ [(a, pre.length)]).map (·.1)) m) b = (zs.length : Int) := by unfold lenA; rw [ez]; rfl
      rw [this] at q
      exact q
    rw [List.nil_append, show (as.map fun b => D.int (lenA (appN ((pre ++ [(a, pre.length)]).map (·.1)) m) b)) = (as.map fun b => lenA (appN ((pre ++ [(a, pre.length)]).map (·.1)) m) b).map D.int by rw [List.map_map]; rfl]
    walk_at "st"
    refine w_sum (intsOf_map _) ?_
    walk_at "st"
    have es : (as.map fun b => lenA (appN ((pre ++ [(a, pre.length)]).map (·.1)) m) b).sum = (as.map fun a => lenA m a).sum + (pre.length : Int) + 1 := by
      have := sum_app (m := m) (pre := (pre ++ [(a, pre.length)]).map (·.1)) (rest := rest.map (·.1)) (by rw [← ea2]; exact nd) (by rw [← ea2]; exact le)
      rw [← ea2] at this
      rw [this, List.length_map, List.length_append, List.length_singleton]
      omega
    rw [es]
    rw [ne_selfI]
    walk_at "st"
    exact hN _ _ ⟨rfl, _, _, _, _, _, _, rfl⟩
  · rintro ds m' ⟨rfl, y2, y3, y5, y6, y7, y8, rfl⟩
    walk_at "st"
    rw [List.zipIdx_map_fst]
    exact h
theorem sem_L_apart : ∀ ds ms Q, sp_L_apart ds ms Q → t_L_apart { nx := fun _ m => Q .non m, rt := Q } (startD 9 ds) ms := by
  intro ds ms Q h
  unfold sp_L_apart at h
  split at h
  · obtain ⟨g, L, ms0, n, p, q, xs, B, rfl, pg, fr0, ok, h⟩ := h
    have xl : xs.length ≤ 10 := by have := congrArg List.length pg.rs; rw [List.length_map] at this; have := ok.rl; omega
    have bl : ∀ x ∈ xs, x.bs.length ≤ 12 := fun x hx => by
      have := (ok.ro x.rw (by rw [← pg.rs]; exact List.mem_map_of_mem hx)).wl
      unfold LR.rw at this
      rwa [List.length_map] at this
    obtain ⟨Lq, eq1, pq⟩ := drp_in fr0 pg.mq
    simp only [startD]
    rw [pg.is]
    unfold t_L_apart
    walk_at "st"
    intro s hs
    walk_at "st"
    refine (show dForE _ _ _ _ _ _ from w_forE ?_)
    walk_at "st"
    have qs : q ≠ s := fun z => hs (q, xs.map lrD) (List.mem_append_left _ pg.mq) z
    refine w_mForE (xs := xs.map lrD) (m' := (s, [D.opq (.ref n), .opq (.ref p), .opq (.ref q)]) :: (Lq ++ ms0)) ?_ ?_ ?_
    · show (if s = q then _ else look (L ++ ms0) q) = _
      rw [if_neg qs.symm]; exact look_in fr0 pg.mq
    · conv => lhs; unfold drp
      rw [if_neg qs.symm, eq1]
    have frq : Frsh Lq ms0 := (frsh_perm pq.symm fr0).2
    have inq : ∀ e ∈ L, e.1 ≠ q → e ∈ Lq := fun e he hne => by
      rcases List.mem_cons.mp (pq.mem_iff.mpr he) with z | z
      · rw [z] at hne; exact absurd rfl hne
      · exact z
    have nd := pg.nd
    have rowIn : ∀ x ∈ xs, (x.a, x.bs.map lwD) ∈ Lq := fun x hx => inq _ (pg.mr x hx _ List.mem_cons_self) fun z => by
      have z : x.a = q := z
      have nd2 := (List.nodup_cons.mp (List.nodup_cons.mp (List.nodup_cons.mp nd).2).2).1
      exact nd2 (by rw [← z]; exact List.mem_flatMap.mpr ⟨x, hx, List.mem_cons_self⟩)
    refine loop_lV lrD xs (fun pre ds m => ∃ (s' : Addr) (M : MS), m = (s', (n :: p :: q :: pre.flatMap adrs).map fun a => D.opq (.ref a)) :: (M ++ ms0) ∧ M.Perm Lq ∧ (∀ e ∈ M ++ ms0, e.1 ≠ s') ∧ ∃ x2 x3 x4 x5 x6 x7 x8, ds = [some (.tup [.opq (.ref n), .opq (.ref p), .opq (.ref q)]), some (.opq (.ref s')), x2, x3, x4, x5, x6, x7, x8]) xs [] _ _ rfl
      ⟨s, Lq, rfl, .refl _, fun e he => hs e (by
        rcases List.mem_append.mp he with he | he
        · exact List.mem_append_left _ (pq.mem_iff.mp (List.mem_cons_of_mem _ he))
        · exact List.mem_append_right _ he), _, _, _, _, _, _, _, rfl⟩ ?_ ?_
    · rintro pre x rest ds m hsplit ⟨s1, M, rfl, pM, off, y2, y3, y4, y5, y6, y7, y8, rfl⟩ N hN
      have hx : x ∈ xs := by rw [← hsplit]; simp
      have hb := bl x hx
      have frM : Frsh M ms0 := frsh_perm pM.symm frq
      have inM : (x.a, x.bs.map lwD) ∈ M := pM.mem_iff.mpr (rowIn x hx)
      obtain ⟨Mx, eM, pMx⟩ := drp_in frM inM
      have bound : (pre.flatMap adrs).length ≤ 200 := by
        have : ∀ ys : List LR, (∀ y ∈ ys, y.bs.length ≤ 12) → (ys.flatMap adrs).length ≤ 13 * ys.length := fun ys => by
          induction ys with
          | nil => exact fun _ => Nat.le_refl _
          | cons y r ih =>
            intro hy
            rw [List.flatMap_cons, List.length_append, List.length_cons]
            have := ih fun z hz => hy z (List.mem_cons_of_mem _ hz)
            have := hy y List.mem_cons_self
            have : (adrs y).length = y.bs.length + 1 := by unfold adrs; rw [List.length_cons, List.length_map]
            omega
        have h1 := this pre fun y hy => bl y (by rw [← hsplit]; exact List.mem_append_left _ hy)
        have := congrArg List.length hsplit
        rw [List.length_append] at this
        omega
      unfold lrD
      walk_at "st"
      refine ⟨Nat.lt_of_lt_of_le (show ((n :: p :: q :: pre.flatMap adrs).map fun a => D.opq (.ref a)).length < 1000 by rw [List.length_map, List.length_cons, List.length_cons, List.length_cons]; omega) (by decide), ?_⟩
      walk_at "st"
      refine (show dLcE _ _ _ _ _ _ _ _ from w_lcE ?_)
      walk_at "st"
      refine w_mLcE (look_in frM inM) eM ?_
      simp only [wipeD, List.set]
      refine comp_e lwD (fun b => D.opq (.ref b.a)) x.bs [] _ (by rw [List.length_nil]; omega) (fun b hb P0 q0 => ?_) ?_
      · unfold lwD
        walk_at "st"
        exact q0
      rw [List.nil_append]
      intro _
      walk_at "st"
      refine ⟨size_ok (by rw [List.length_append, List.length_map, List.length_map, List.length_cons, List.length_cons, List.length_cons, List.length_singleton]; omega), fun s2 hs2 => ?_⟩
      walk_at "st"
      refine hN _ _ ⟨s2, (x.a, x.bs.map lwD) :: Mx, ?_, pMx.trans pM, fun e he => hs2 e he, _, _, _, _, _, _, _, rfl⟩
      rw [List.flatMap_append, List.flatMap_singleton]
      show (s2, _) :: _ = (s2, _) :: _
      rw [show (n :: p :: q :: (pre.flatMap adrs ++ adrs x)) = (n :: p :: q :: pre.flatMap adrs) ++ [x.a] ++ x.bs.map LW.a by unfold adrs; simp, List.map_append, List.map_append, List.map_map]
      rfl
    · rintro ds m ⟨s1, M, rfl, pM, off, y2, y3, y4, y5, y6, y7, y8, rfl⟩
      change (∀ e ∈ ((s1, (n :: p :: q :: xs.flatMap adrs).map fun a => D.opq (.ref a)) :: (M ++ ms0) : MS), e.1 ≠ q) → NxG (EN.wn { nx := fun _ m => Q .non m, rt := Q } (StG t_L_apart_c1 { nx := fun _ m => Q .non m, rt := Q })) _ ((q, xs.map lrD) :: (s1, _) :: (M ++ ms0))
      intro off2
      have sq : s1 ≠ q := off2 _ List.mem_cons_self
      have pL : ((q, xs.map lrD) :: M).Perm L := (pM.cons _).trans pq
      have frL : Frsh ((q, xs.map lrD) :: M) ms0 := frsh_perm pL.symm fr0
      have flL : flatM ((q, xs.map lrD) :: M) := fun e he => pg.fl e (pL.mem_iff.mp he)
      have memL : ∀ a ∈ n :: p :: q :: xs.flatMap adrs, ∃ ys, (a, ys) ∈ L ∧ ys.length ≤ 1000 := fun a ha => by
        simp only [List.mem_cons] at ha
        rcases ha with rfl | rfl | rfl | ha
        · exact ⟨_, pg.mn, by rw [List.length_map]; have := ok.nm.l2; omega⟩
        · exact ⟨_, pg.mp, by rw [List.length_map]; have := ok.pm.l2; omega⟩
        · exact ⟨_, pg.mq, by rw [List.length_map]; omega⟩
        · obtain ⟨x, hx, ha⟩ := List.mem_flatMap.mp ha
          have hb := bl x hx
          unfold adrs at ha
          rcases List.mem_cons.mp ha with rfl | ha
          · exact ⟨_, pg.mr x hx _ List.mem_cons_self, by rw [List.length_map]; omega⟩
          · obtain ⟨w, hw, rfl⟩ := List.mem_map.mp ha
            refine ⟨_, pg.mr x hx (lwM w) (List.mem_cons_of_mem _ (List.mem_reverse.mpr (List.mem_map_of_mem hw))), ?_⟩
            have := ((ok.ro x.rw (by rw [← pg.rs]; exact List.mem_map_of_mem hx)).wo w.w (List.mem_map_of_mem hw)).ln
            have := ok.nm.l2
            rw [List.length_map]
            show w.w.fs.length + 1 ≤ 1000
            omega
      obtain ⟨M', e1, f1, fl1⟩ := app_part (as := n :: p :: q :: xs.flatMap adrs) (M := (q, xs.map lrD) :: M) (ms := ms0) (fun a ha => by
        obtain ⟨ys, h, _⟩ := memL a ha
        exact List.mem_map_of_mem (f := (·.1)) (pL.mem_iff.mpr h)) frL flL
      have bound : (xs.flatMap adrs).length ≤ 200 := by
        have : ∀ ys : List LR, (∀ y ∈ ys, y.bs.length ≤ 12) → (ys.flatMap adrs).length ≤ 13 * ys.length := fun ys => by
          induction ys with
          | nil => exact fun _ => Nat.le_refl _
          | cons y r ih =>
            intro hy
            rw [List.flatMap_cons, List.length_append, List.length_cons]
            have := ih fun z hz => hy z (List.mem_cons_of_mem _ hz)
            have := hy y List.mem_cons_self
            have : (adrs y).length = y.bs.length + 1 := by unfold adrs; rw [List.length_cons, List.length_map]
            omega
        have := this xs bl
        omega
      walk_at "s1"
      refine apart_rest (as := n :: p :: q :: xs.flatMap adrs) (m := ((q, xs.map lrD) :: M) ++ ms0) (s := s1) pg.nd (by rw [List.length_cons, List.length_cons, List.length_cons]; omega) (fun a ha => ?_) ?_ ?_ ?_
      · obtain ⟨ys, h, l⟩ := memL a ha
        exact ⟨ys, look_in frL (pL.mem_iff.mpr h), l⟩
      · rw [e1]; exact h M' fl1 f1
      · show (if q = s1 then _ else (if s1 = s1 then _ else _)) = _
        rw [if_neg sq.symm, if_pos rfl]
      · conv => lhs; unfold drp; unfold drp
        rw [if_neg sq.symm, if_pos rfl]
        rfl
  · exact h.elim
theorem ok_L_apart (T : Tx P K mg) : FnG P w K mg base 1 T.f_L_apart T.d_L_apart ["_law_told"] (spD K sp_L_apart) := by
  exact fnG_of (k := 0) (t := t_L_apart) T.F_L_apart sc_L_apart len_L_apart
    (fun cdv A outer s H hr => pds_cons (pds_set (i := 1) sc_L_apart.nd rfl (.inl rfl) (pd_callTy call_list_of cal_listM rfl T.n_list (by decide +kernel) (pda_cons (pd_var 0) (pda_nil)))) (pds_cons (pds_forE (us := [2]) rfl (pd_ix ix_seq opd_ix (pd_var 0) (pd_int)) (pg_name (i := 2) sc_L_apart.nd rfl (.inl rfl)) (tg_name (i := 2) (by decide)) (pds_cons (pds_expr (pd_append (pd_var 1) (pda_cons (pd_ix ix_seq opd_ix (pd_var 2) (pd_int)) (pda_nil)))) (pds_one (pds_frz (i := 1) (pds_set (i := 1) sc_L_apart.nd rfl (.inl rfl) (pd_op op_addD opd_addM (pd_var 1) (pd_lcE (own := [("_law_word", 6), ("_law_line_here", 7)]) rfl sc_L_apart.nd (pd_ix ix_seq opd_ix (pd_var 2) (pd_int)) (blkOk_by (own := [("_law_word", 6), ("_law_line_here", 7)]) (by kernel_rfl)) (fun _ _ _ _ _ => pg_tup rfl (pgs_cons (pg_name (i := 6) sc_L_apart.nd rfl (by first | exact .inl rfl | exact .inr rfl)) (pgs_cons (pg_name (i := 7) sc_L_apart.nd rfl (by first | exact .inl rfl | exact .inr rfl)) (pgs_nil)))) (tg_tup (tgs_cons (tg_name (i := 6) (by decide)) (tgs_cons (tg_name (i := 7) (by decide)) (tgs_nil) (mon_name (i := 7))) (mon_name (i := 6)))) (mon_tup (mon_cons (mon_name (i := 6)) (mon_cons (mon_name (i := 7)) (mon_nil)))) (fun _ _ _ _ _ => pdts_nil) (fun _ _ _ _ _ => pd_var 7)))))))) (pds_cons (pds_frz (i := 1) (pds_set (i := 4) sc_L_apart.nd rfl (.inl rfl) (pd_callB (cr_sum rfl) cal_sum rfl T.n_sum (by decide +kernel) (pda_cons (pd_lc (own := [("_law_one", 3)]) rfl sc_L_apart.nd (pdi_list (pd_var 1)) (blkOk_by (own := [("_law_one", 3)]) (by kernel_rfl)) (fun _ _ _ _ _ => pg_name (i := 3) sc_L_apart.nd rfl (by first | exact .inl rfl | exact .inr rfl)) (tg_name (i := 3) (by decide)) (mon_name (i := 3)) (fun _ _ _ _ _ => pdts_nil) (fun _ _ _ _ _ => pd_callB call_len cal_len rfl T.n_len (by decide +kernel) (pda_cons (pd_var 3) (pda_nil)))) (pda_nil))))) (pds_cons (pds_for (vs := [5, 3]) rfl (pdi_enum rfl T.n_enumerate (pda_cons (pd_var 1) (pda_nil))) (pg_tup rfl (pgs_cons (pg_name (i := 5) sc_L_apart.nd rfl (.inl rfl)) (pgs_cons (pg_name (i := 3) sc_L_apart.nd rfl (.inl rfl)) (pgs_nil)))) (tg_tup (tgs_cons (tg_name (i := 5) (by decide)) (tgs_cons (tg_name (i := 3) (by decide)) (tgs_nil) (mon_name (i := 3))) (mon_name (i := 5)))) (pds_cons (pds_expr (pd_append (pd_var 3) (pda_cons (pd_non) (pda_nil)))) (pds_one (pds_if (pdt_cmp (op_neF hr.r.units) opd_ne (pd_callB (cr_sum rfl) cal_sum rfl T.n_sum (by decide +kernel) (pda_cons (pd_lc (own := [("_law_each", 8)]) rfl sc_L_apart.nd (pdi_list (pd_var 1)) (blkOk_by (own := [("_law_each", 8)]) (by kernel_rfl)) (fun _ _ _ _ _ => pg_name (i := 8) sc_L_apart.nd rfl (by first | exact .inl rfl | exact .inr rfl)) (tg_name (i := 8) (by decide)) (mon_name (i := 8)) (fun _ _ _ _ _ => pdts_nil) (fun _ _ _ _ _ => pd_callB call_len cal_len rfl T.n_len (by decide +kernel) (pda_cons (pd_var 8) (pda_nil)))) (pda_nil))) (pd_op op_addD opd_add (pd_op op_addD opd_add (pd_var 4) (pd_var 5)) (pd_int))) (pds_one (pds_ret (pd_bl))) (pds_nil))))) (pds_one (pds_ret (pd_bl)))))))
    sem_L_apart
theorem pool_app {L ms : MS} {p : Addr} (h : PoolAt ms p) (f : Frsh L ms) : PoolAt (L ++ ms) p := by
  obtain ⟨a, b, o, e⟩ := h
  exact ⟨a, b, o, by rw [look_off fun q hq z => frsh_off f q hq _ (look_mem e) z.symm]; exact e⟩
/-- a program told anew, seen as it is -/
theorem vw_pg {g : Pg} {t : D} {L : MS} {n p q : Addr} {xs : List LR} (h : PgL g t L n p q xs) : Vw L t (pgD g) := by
  have wl : ∀ bs : List LW, (∀ b ∈ bs, lwM b ∈ L) → VwS L (bs.map lwD) ((bs.map LW.w).map wiD) := fun bs => by
    induction bs with
    | nil => exact fun _ => .nil
    | cons b r ih =>
      intro hb
      exact .cons (.tup (.cons .same (.cons (.lst (hb b List.mem_cons_self) (VwS.same _)) .nil))) (ih fun c hc => hb c (List.mem_cons_of_mem _ hc))
  have rl : ∀ ys : List LR, (∀ x ∈ ys, ∀ e ∈ wsM x.a x.bs, e ∈ L) → VwS L (ys.map lrD) ((ys.map LR.rw).map rwD) := fun ys => by
    induction ys with
    | nil => exact fun _ => .nil
    | cons y r ih =>
      intro hy
      refine .cons (.tup (.cons .same (.cons .same (.cons (.lst (hy y List.mem_cons_self _ List.mem_cons_self) (wl y.bs fun b hb => hy y List.mem_cons_self _ (List.mem_cons_of_mem _ (List.mem_reverse.mpr (List.mem_map_of_mem hb))))) .nil)))) (ih fun c hc => hy c (List.mem_cons_of_mem _ hc))
  rw [h.is]
  refine .tup (.cons (.lst h.mn (VwS.same _)) (.cons (.lst h.mp (VwS.same _)) (.cons (.lst h.mq ?_) .nil)))
  rw [← h.rs]
  exact rl xs h.mr
theorem any_ints {B : Nat} {is : List Int} (h : ∀ i ∈ is, Bd B i) (hl : is.length ≤ 100) : Any false B 100 1 (.lst (is.map D.int)) := .lst (by rw [List.length_map]; exact hl) fun x hx => by
  obtain ⟨i, hi, rfl⟩ := List.mem_map.mp hx
  exact .int (h i hi)
theorem any_nms {B most : Nat} {xs : List Str} (h : NmOk most xs) (hm : most ≤ 6) : Any false B 100 1 (.lst (xs.map D.str)) := .lst (by rw [List.length_map]; have := h.l2; omega) fun x hx => by
  obtain ⟨s, hs, rfl⟩ := List.mem_map.mp hx
  have g := h.ok s hs
  refine .str ?_ (nm_ok g)
  unfold goodNm at g
  rw [Bool.and_eq_true_iff, Bool.and_eq_true_iff] at g
  have := of_decide_eq_true g.1.2
  omega
theorem any_wd {c : Bool} {B k : Nat} (j : Bool) : Any c B 100 k (wdD j) := by
  cases j
  · exact .str (x := Str.ofString "least") (by decide) (by decide +kernel)
  · exact .str (x := Str.ofString "just") (by decide) (by decide +kernel)
theorem any_wi {B n : Nat} {w : Wi} (h : WiOk B n w) (hn : n ≤ 20) : Any false B 100 2 (wiD w) := .tup (by simp) fun x hx => by
  simp only [List.mem_cons, List.not_mem_nil, or_false] at hx
  rcases hx with rfl | rfl
  · exact any_wd w.j
  · have := any_ints (B := B) (is := w.ls) h.bd (by have := h.ln; show w.fs.length + 1 ≤ 100; omega)
    exact this
theorem any_rw {B sz pl : Nat} {r : Rw} (h : RwOk B sz pl r) (hsz : sz ≤ 3) (hpl : pl ≤ 6) (hB : 3 ≤ B) : Any false B 100 4 (rwD r) := .tup (by simp) fun x hx => by
  have hs := h.s1
  have hs0 := h.s0
  have ht := h.t1
  have ht0 := h.t0
  simp only [List.mem_cons, List.not_mem_nil, or_false] at hx
  rcases hx with rfl | rfl | rfl
  · exact .int ((show Bd 3 r.s by unfold Bd; omega).mono hB)
  · exact .int ((show Bd 3 r.t by unfold Bd; omega).mono hB)
  · refine .lst (by rw [List.length_map]; have := h.wl; omega) fun x hx => ?_
    obtain ⟨w, hw, rfl⟩ := List.mem_map.mp hx
    exact any_wi (h.wo w hw) (by omega)
theorem any_pg {B : Nat} {g : Pg} (h : PgOk B g) (hB : 3 ≤ B) : Any false B 100 6 (pgD g) := .tup (by simp) fun x hx => by
  simp only [List.mem_cons, List.not_mem_nil, or_false] at hx
  rcases hx with rfl | rfl | rfl
  · exact (any_nms h.nm (by decide)).up (by decide)
  · exact (any_nms h.pm (by decide)).up (by decide)
  · refine .lst (by rw [List.length_map]; have := h.rl; omega) fun x hx => ?_
    obtain ⟨r, hr, rfl⟩ := List.mem_map.mp hx
    exact any_rw (h.ro r hr) h.nm.l2 h.pm.l2 hB
theorem Any.self {B L k : Nat} {d : D} (h : Any false B L k d) : eqD d d = true := by
  obtain ⟨p, a, b, _⟩ := h.py rfl
  unfold eqD
  rw [a]
  exact PySem.SeqAt.eqv_refl p b
theorem w_ne_pg {B : Nat} {g : Pg} {ms : MS} {P : D → MS → Prop} (h : PgOk B g) (hB : 3 ≤ B) (q : P (.bl false) ms) : fNe (pgD g) (pgD g) ms P := by
  have a := any_pg h hB
  have s := a.sh (by decide)
  have e : eqD (.tup [.lst (g.nm.map D.str), .lst (g.pm.map D.str), .lst (g.rs.map rwD)]) (.tup [.lst (g.nm.map D.str), .lst (g.pm.map D.str), .lst (g.rs.map rwD)]) = true := a.self
  exact w_ne_tt ⟨s, s, by rw [e]; exact q⟩
theorem shw_pg {B : Nat} {g : Pg} (h : PgOk B g) (hB : B ≤ 1900 := by decide) : Shw (pgD g) := (gd_pg h hB).sd.shw
theorem ne_selfS (z : Str) : (!(z == z)) = false := by simp
theorem ne_selfT (z : Str) : (z != z) = false := by simp
theorem shw_own {B : Nat} {g : Pg} {is : List Nat} (ok : PgOk B g) (hl : is.length ≤ 10) (hk : ∀ k ∈ is, k < 10) (hB : B ≤ 1900 := by decide) : Shw (.lst [pgD g, natsD is]) := by
  have g2 : Gd (natsD is) 100000 6 := by
    refine (gd_lst (n := 2000) (k := 0) fun x hx => ?_).mono (by unfold natL; rw [List.length_map]; omega) (by decide)
    obtain ⟨k, hk', rfl⟩ := List.mem_map.mp hx
    exact gd_int (n := 4) (by have := hk k hk'; unfold Bd; omega)
  exact (gd_lstS (gds_cons (gd_pg ok hB) (gds_cons g2 gds_nil))).sd.shw
def tN (b : Bool) (g : Pg) : Nat := if b then g.nm.length else g.pm.length
def sp_L_right : FS := fun ds ms P => match ds with
  | [d, .lst ys, .int k] => ∃ (g : Pg) (is : List Nat) (b : Bool), d = pgD g ∧ ys = natL is ∧ k = (if b then 1 else 0) ∧ PgOk 41 g ∧ is.Perm (List.range (tN b g)) ∧ flatM ms ∧ ∀ M, flatM M → Frsh M ms → P (.bl true) (M ++ ms)
  | _ => False
theorem len_L_right : ∀ ds ms Q, sp_L_right ds ms Q → ds.length = 3 := fun ds ms Q h => by
  unfold sp_L_right at h
  split at h <;> first | rfl | exact h.elim
def t_L_right_c3 (fa_L_by_numbers fa_L_by_places fa_p_numbers_ordered fa_p_places_ordered : Addr) : DTS := dSeq (dAsg (dLc (iRange1 (aCons (dCB cLen (aCons (dVar 1) (aNil))) (aNil))) (sName 8) (dYes) (dIndex (dVar 1) (aCons (dVar 8) (aNil))) [8]) (sName 7)) (dRet (dOp fEq (dViewE (dCallF 2 0 fa_p_places_ordered fa_p_numbers_ordered [0, 1] [0, 1] sp_p_places_ordered sp_p_numbers_ordered (dVar 3) (aCons (dViewE (dCallF 2 0 fa_p_places_ordered fa_p_numbers_ordered [0, 1] [0, 1] sp_p_places_ordered sp_p_numbers_ordered (dVar 3) (aCons (dVar 0) (aCons (dVar 1) (aNil))) (aNil))) (aCons (dVar 7) (aNil))) (aNil))) (dVar 0)))
def t_L_right_c2 (fa_L_by_numbers fa_L_by_places fa_p_numbers_ordered fa_p_places_ordered : Addr) : DTS := dSeq (dIfS (dNot (dTest (dCall 1 0 [0] sp_L_apart (aCons (dVar 6) (aNil)) (aNil)))) (dRet (dC (.bl false))) (dNext)) (dSeq (dIfS (dOr (dTest (dOp fNe (dCB cRepr (aCons (dLst (aCons (dVar 0) (aCons (dVar 1) (aNil)))) (aNil))) (dVar 5))) (dTest (dOp fNe (dCB cRepr (aCons (dViewE (dCallF 2 0 fa_p_places_ordered fa_p_numbers_ordered [0, 1] [0, 1] sp_p_places_ordered sp_p_numbers_ordered (dVar 3) (aCons (dVar 0) (aCons (dVar 1) (aNil))) (aNil))) (aNil))) (dCB cRepr (aCons (dVar 4) (aNil)))))) (dRet (dC (.bl false))) (dNext)) (t_L_right_c3 fa_L_by_numbers fa_L_by_places fa_p_numbers_ordered fa_p_places_ordered))
def t_L_right_c1 (fa_L_by_numbers fa_L_by_places fa_p_numbers_ordered fa_p_places_ordered : Addr) : DTS := dSeq (dAsg (dCallF 2 0 fa_L_by_places fa_L_by_numbers [0, 1] [0, 1] sp_L_by_places sp_L_by_numbers (dOp fIx (dLst (aCons (dC (.opq (.ref fa_L_by_places))) (aCons (dC (.opq (.ref fa_L_by_numbers))) (aNil)))) (dVar 2)) (aCons (dVar 0) (aCons (dVar 1) (aNil))) (aNil)) (sName 4)) (dSeq (dAsg (dCB cRepr (aCons (dLst (aCons (dVar 0) (aCons (dVar 1) (aNil)))) (aNil))) (sName 5)) (dSeq (dAsg (dCallF 2 0 fa_p_places_ordered fa_p_numbers_ordered [0, 1] [0, 1] sp_p_places_ordered sp_p_numbers_ordered (dVar 3) (aCons (dVar 0) (aCons (dVar 1) (aNil))) (aNil)) (sName 6)) (dSeq (dIfS (dOr (dTest (dView 6 (dOp fNe (dCB cRepr (aCons (dVar 6) (aNil))) (dCB cRepr (aCons (dVar 4) (aNil)))))) (dTest (dOp fNe (dCB cRepr (aCons (dViewE (dCallF 0 2 fa_p_places_ordered fa_p_numbers_ordered [1, 0] [1, 0] sp_p_places_ordered sp_p_numbers_ordered (dVar 3) (aNil) (aCons (dVar 1) (aCons (dVar 0) (aNil))))) (aNil))) (dCB cRepr (aCons (dVar 4) (aNil)))))) (dRet (dC (.bl false))) (dNext)) (t_L_right_c2 fa_L_by_numbers fa_L_by_places fa_p_numbers_ordered fa_p_places_ordered))))
def tf_L_right (fa_L_by_numbers fa_L_by_places fa_p_numbers_ordered fa_p_places_ordered : Addr) : DTS := dSeq (dAsg (dOp fIx (dLst (aCons (dC (.opq (.ref fa_p_places_ordered))) (aCons (dC (.opq (.ref fa_p_numbers_ordered))) (aNil)))) (dVar 2)) (sName 3)) ((t_L_right_c1 fa_L_by_numbers fa_L_by_places fa_p_numbers_ordered fa_p_places_ordered))
def t_L_right : DTS := fun E ds ms => ∀ fa_L_by_numbers fa_L_by_places fa_p_numbers_ordered fa_p_places_ordered : Addr, tf_L_right fa_L_by_numbers fa_L_by_places fa_p_numbers_ordered fa_p_places_ordered E ds ms
theorem first_at {is : List Nat} {n : Nat} (h : n ∈ is) : FirstAt (is.map fun (k : Nat) => (k : Int)) (n : Int) (is.idxOf n) := by
  have hl := List.idxOf_lt_length_iff.mpr h
  refine ⟨by rw [List.getElem?_map, List.getElem?_eq_getElem hl, List.getElem_idxOf hl]; rfl, fun k hk e => ?_⟩
  rw [List.getElem?_map, List.getElem?_eq_getElem (by omega)] at e
  have e2 : ((is[k]'(by omega) : Nat) : Int) = (n : Int) := Option.some.inj e
  have e3 : is[k]'(by omega) = n := by omega
  have := List.not_of_lt_findIdx (p := (· == n)) (xs := is) hk
  rw [e3] at this
  simp at this
def inv (is : List Nat) : List Nat := (List.range is.length).map fun k => is.idxOf k
theorem idx_at {is : List Nat} (nd : is.Nodup) {i k : Nat} (h : is[i]? = some k) : is.idxOf k = i := by
  have hi : i < is.length := by
    by_cases z : i < is.length
    · exact z
    · rw [List.getElem?_eq_none (by omega)] at h; cases h
  rw [List.getElem?_eq_getElem hi] at h
  injection h with h
  have := nd.idxOf_getElem i hi
  rw [h] at this
  exact this
theorem inv_perm {is : List Nat} {n : Nat} (h : is.Perm (List.range n)) : (inv is).Perm (List.range n) := by
  have il := Ord.len h
  have nd : is.Nodup := h.nodup_iff.mpr List.nodup_range
  have e : is.map (fun k => is.idxOf k) = List.range n := by
    refine List.ext_getElem? fun i => ?_
    rw [List.getElem?_map]
    by_cases z : i < is.length
    · rw [List.getElem?_eq_getElem z, List.getElem?_range (by omega)]
      exact congrArg some (idx_at nd (List.getElem?_eq_getElem z))
    · rw [List.getElem?_eq_none (by omega), List.getElem?_eq_none (by rw [List.length_range]; omega)]; rfl
  unfold inv
  rw [il, ← e]
  have := (h.symm.map fun k => is.idxOf k)
  rw [e] at this ⊢
  exact this
theorem inv_at {is : List Nat} {n i k : Nat} (h : is.Perm (List.range n)) (e : is[i]? = some k) : (inv is)[k]? = some i := by
  have nd : is.Nodup := h.nodup_iff.mpr List.nodup_range
  have hk := Ord.lt h k (List.mem_of_getElem? e)
  have il := Ord.len h
  unfold inv
  rw [List.getElem?_map, List.getElem?_range (by omega)]
  exact congrArg some (idx_at nd e)
theorem movL_inv {α : Type} {is : List Nat} {xs : List α} (h : is.Perm (List.range xs.length)) : movL (inv is) (movL is xs) = xs := by
  refine List.ext_getElem? fun i => ?_
  by_cases z : i < xs.length
  · have il := Ord.len h
    have e : is[i]? = some (is[i]'(by omega)) := List.getElem?_eq_getElem (by omega)
    have h2 := inv_perm h
    rw [movL_at (is := inv is) (xs := movL is xs) (by rw [movL_len]; exact h2) (inv_at h e), movL_at h e]
  · rw [List.getElem?_eq_none (by rw [movL_len, movL_len]; omega), List.getElem?_eq_none (by omega)]
theorem places_inv {B : Nat} {g : Pg} {is : List Nat} (ok : PgOk B g) (h : is.Perm (List.range g.pm.length)) : placesG (inv is) (placesG is g) = g := by
  obtain ⟨nm, pm, rs⟩ := g
  unfold placesG
  simp only
  rw [movL_inv h, List.map_map]
  congr 1
  refine (List.map_congr_left fun r hr => ?_).trans (List.map_id _)
  have o := ok.ro r hr
  have at_ : ∀ i : Int, 0 ≤ i → i < pm.length → ((((inv is).getD ((is.getD i.toNat 0 : Nat) : Int).toNat 0 : Nat)) : Int) = i := fun i h0 h1 => by
    have il := Ord.len h
    have e : is[i.toNat]? = some (is[i.toNat]'(by show i.toNat < is.length; have : is.length = pm.length := il; omega)) := List.getElem?_eq_getElem _
    rw [List.getD_eq_getElem?_getD (l := is), e, Option.getD_some, Int.toNat_natCast, List.getD_eq_getElem?_getD, inv_at h e, Option.getD_some]
    omega
  show (⟨_, _, r.ws⟩ : Rw) = r
  obtain ⟨s, t, ws⟩ := r
  rw [show ((((inv is).getD ((is.getD s.toNat 0 : Nat) : Int).toNat 0 : Nat)) : Int) = s from at_ s o.s0 o.s1, show ((((inv is).getD ((is.getD t.toNat 0 : Nat) : Int).toNat 0 : Nat)) : Int) = t from at_ t o.t0 o.t1]
theorem wish_inv {is : List Nat} {n : Nat} {w : Wi} (h : is.Perm (List.range n)) (hl : w.fs.length = 2 * n) : wishM (inv is) (wishM is w) = w := by
  have il := Ord.len h
  have jl : (inv is).length = is.length := by unfold inv; rw [List.length_map, List.length_range]
  obtain ⟨j, l, fs⟩ := w
  have hl : fs.length = 2 * n := hl
  have l1 : (fs.take is.length).length = is.length := by rw [List.length_take]; omega
  have l2 : (fs.drop is.length).length = is.length := by rw [List.length_drop]; omega
  unfold wishM
  simp only
  have e1 : (movL is (fs.take is.length) ++ movL is (fs.drop is.length)).take (inv is).length = movL is (fs.take is.length) := List.take_left' (by rw [movL_len, l1, jl])
  have e2 : (movL is (fs.take is.length) ++ movL is (fs.drop is.length)).drop (inv is).length = movL is (fs.drop is.length) := List.drop_left' (by rw [movL_len, l1, jl])
  rw [e1, e2, movL_inv (by rw [l1, il]; exact h), movL_inv (by rw [l2, il]; exact h), List.take_append_drop]
theorem numbers_inv {B : Nat} {g : Pg} {is : List Nat} (ok : PgOk B g) (h : is.Perm (List.range g.nm.length)) : numbersG (inv is) (numbersG is g) = g := by
  obtain ⟨nm, pm, rs⟩ := g
  unfold numbersG
  simp only
  rw [movL_inv h, List.map_map]
  congr 1
  refine (List.map_congr_left fun r hr => ?_).trans (List.map_id _)
  have o := ok.ro r hr
  obtain ⟨s, t, ws⟩ := r
  show (⟨s, t, (ws.map (wishM is)).map (wishM (inv is))⟩ : Rw) = ⟨s, t, ws⟩
  rw [List.map_map]
  congr 1
  exact (List.map_congr_left fun w hw => wish_inv h (o.wo w hw).ln).trans (List.map_id _)
theorem w_eq_pg {B : Nat} {g : Pg} {ms : MS} {P : D → MS → Prop} (h : PgOk B g) (hB : 3 ≤ B) (q : P (.bl true) ms) : fEq (pgD g) (pgD g) ms P := by
  have a := any_pg h hB
  have s := a.sh (by decide)
  have e : eqD (.tup [.lst (g.nm.map D.str), .lst (g.pm.map D.str), .lst (g.rs.map rwD)]) (.tup [.lst (g.nm.map D.str), .lst (g.pm.map D.str), .lst (g.rs.map rwD)]) = true := a.self
  exact w_eq_tt ⟨s, s, by rw [e]; exact q⟩
theorem sem_L_right : ∀ ds ms Q, sp_L_right ds ms Q → t_L_right { nx := fun _ m => Q .non m, rt := Q } (startD 9 ds) ms := by
  intro ds ms Q h
  unfold sp_L_right at h
  split at h
  · rename_i d ys k
    obtain ⟨g, is, b, rfl, rfl, rfl, ok, hp, fm, h⟩ := h
    have nl := ok.nm.l2
    have pl := ok.pm.l2
    have ln : (natL is).length = is.length := List.length_map ..
    simp only [startD]
    unfold t_L_right
    intro fa1 fa2 fa3 fa4
    unfold tf_L_right
    cases b with
    | false =>
      replace hp : is.Perm (List.range g.pm.length) := hp
      have il := Ord.len hp
      have hk : ∀ k ∈ is, k < 10 := fun k hk => by have := Ord.lt hp k hk; omega
      have ok2 := placesG_ok ok hp
      have so := shw_own (is := is) ok (by omega) hk
      rw [if_neg (by decide)]
      walk_at "st"
      unfold t_L_right_c1
      refine w_seq ?_
      refine StG.out ?_
      walk_at "st"
      refine ExG.out (w_callF ?_)
      walk_at "st"
      refine w_mCallF1 ?_
      walk_at "st"
      refine ⟨g, is, 41, rfl, rfl, ok, hp, ?_⟩
      walk_at "st"
      refine ⟨so, ?_⟩
      walk_at "st"
      refine ExG.out (w_callF ?_)
      walk_at "st"
      refine w_mCallF1 ?_
      walk_at "st"
      refine ⟨g, is, 41, rfl, rfl, ok, hp, fun t L n p q xs pg fr0 => ?_⟩
      walk_at "st"
      refine ExG.out (w_view L ms rfl rfl (vw_pg pg) rfl ?_)
      walk_at "st"
      refine ⟨shw_pg ok2, ?_⟩
      walk_at "st"
      refine ⟨shw_pg ok2, ?_⟩
      walk_at "st"
      (first | rw [ne_selfS] | rw [ne_selfT])
      refine ⟨rfl, fm, ?_⟩
      walk_at "st"
      refine ExG.out (w_viewE ?_)
      refine ExG.out (w_callF ?_)
      walk_at "st"
      refine w_mCallF1 ?_
      walk_at "st"
      refine ⟨g, is, 41, rfl, rfl, ok, hp, fun t2 L2 n2 p2 q2 xs2 pg2 fr2 => ?_⟩
      refine ⟨L2, L ++ ms, _, rfl, vw_pg pg2, ?_⟩
      walk_at "st"
      refine ⟨shw_pg ok2, ?_⟩
      walk_at "st"
      refine ⟨shw_pg ok2, ?_⟩
      walk_at "st"
      (first | rw [ne_selfS] | rw [ne_selfT])
      walk_at "st"
      unfold t_L_right_c2
      refine w_seq ?_
      refine StG.out ?_
      walk_at "st"
      refine ⟨placesG is g, L, ms, n, p, q, xs, 41, rfl, pg, fr0, ok2, fun M fM frM => ?_⟩
      walk_at "st"
      refine ⟨so, ?_⟩
      walk_at "st"
      (first | rw [ne_selfS] | rw [ne_selfT])
      walk_at "st"
      refine ExG.out (w_viewE ?_)
      refine ExG.out (w_callF ?_)
      walk_at "st"
      refine w_mCallF1 ?_
      walk_at "st"
      refine ⟨g, is, 41, rfl, rfl, ok, hp, fun t2 L2 n2 p2 q2 xs2 pg2 fr2 => ?_⟩
      refine ⟨L2, M ++ ms, _, rfl, vw_pg pg2, ?_⟩
      walk_at "st"
      refine ⟨shw_pg ok2, ?_⟩
      walk_at "st"
      refine ⟨shw_pg ok2, ?_⟩
      walk_at "st"
      (first | rw [ne_selfS] | rw [ne_selfT])
      walk_at "st"
      unfold t_L_right_c3
      refine w_seq ?_
      refine StG.out ?_
      walk_at "st"
      rw [ln]
      refine w_mRng ⟨by omega, by omega⟩ ?_
      rw [Int.toNat_natCast, rng_natW]
      unfold natL
      simp only [wipeD, List.set]
      refine comp_e (fun (k : Nat) => D.int (k : Int)) (fun k => D.int ((is.idxOf k : Nat) : Int)) (List.range is.length) [] _ (by rw [List.length_range, List.length_nil]; omega) (fun k hk' P0 q => ?_) ?_
      · have hm : k ∈ is := hp.mem_iff.mpr (List.mem_range.mpr (by have := List.mem_range.mp hk'; omega))
        walk_at "st"
        refine w_mIndexA (natL_ints is) (first_at hm) ?_
        exact q
      rw [List.nil_append, show ((List.range is.length).map fun k => D.int ((is.idxOf k : Nat) : Int)) = natL (inv is) by unfold natL inv; rw [List.map_map]; rfl]
      walk_at "st"
      refine ExG.out (w_viewE ?_)
      refine ExG.out (w_callF ?_)
      walk_at "st"
      refine w_mCallF1 ?_
      walk_at "st"
      refine ExG.out (w_viewE ?_)
      refine ExG.out (w_callF ?_)
      walk_at "st"
      refine w_mCallF1 ?_
      walk_at "st"
      refine ⟨g, is, 41, rfl, rfl, ok, hp, fun t2 L2 n2 p2 q2 xs2 pg2 fr2 => ?_⟩
      refine ⟨L2, M ++ ms, _, rfl, vw_pg pg2, ?_⟩
      walk_at "st"
      have hi := inv_perm hp
      refine ⟨placesG is g, inv is, 41, rfl, rfl, ok2, by first | exact hi | (show (inv is).Perm (List.range (movL is _).length); rw [movL_len]; exact hi), fun t3 L3 n3 p3 q3 xs3 pg3 fr3 => ?_⟩
      refine ⟨L3, M ++ ms, _, rfl, vw_pg pg3, ?_⟩
      walk_at "st"
      rw [places_inv ok hp]
      refine OpG.out (w_eq_pg ok (by decide) ?_)
      walk_at "st"
      exact h M fM frM
    | true =>
      replace hp : is.Perm (List.range g.nm.length) := hp
      have il := Ord.len hp
      have hk : ∀ k ∈ is, k < 10 := fun k hk => by have := Ord.lt hp k hk; omega
      have ok2 := numbersG_ok ok hp
      have so := shw_own (is := is) ok (by omega) hk
      rw [if_pos (by decide)]
      walk_at "st"
      unfold t_L_right_c1
      refine w_seq ?_
      refine StG.out ?_
      walk_at "st"
      refine ExG.out (w_callF ?_)
      walk_at "st"
      refine w_mCallF2 ?_
      walk_at "st"
      refine ⟨g, is, 41, rfl, rfl, ok, hp, ?_⟩
      walk_at "st"
      refine ⟨so, ?_⟩
      walk_at "st"
      refine ExG.out (w_callF ?_)
      walk_at "st"
      refine w_mCallF2 ?_
      walk_at "st"
      refine ⟨g, is, 41, rfl, rfl, ok, hp, fun t L n p q xs pg fr0 => ?_⟩
      walk_at "st"
      refine ExG.out (w_view L ms rfl rfl (vw_pg pg) rfl ?_)
      walk_at "st"
      refine ⟨shw_pg ok2, ?_⟩
      walk_at "st"
      refine ⟨shw_pg ok2, ?_⟩
      walk_at "st"
      (first | rw [ne_selfS] | rw [ne_selfT])
      refine ⟨rfl, fm, ?_⟩
      walk_at "st"
      refine ExG.out (w_viewE ?_)
      refine ExG.out (w_callF ?_)
      walk_at "st"
      refine w_mCallF2 ?_
      walk_at "st"
      refine ⟨g, is, 41, rfl, rfl, ok, hp, fun t2 L2 n2 p2 q2 xs2 pg2 fr2 => ?_⟩
      refine ⟨L2, L ++ ms, _, rfl, vw_pg pg2, ?_⟩
      walk_at "st"
      refine ⟨shw_pg ok2, ?_⟩
      walk_at "st"
      refine ⟨shw_pg ok2, ?_⟩
      walk_at "st"
      (first | rw [ne_selfS] | rw [ne_selfT])
      walk_at "st"
      unfold t_L_right_c2
      refine w_seq ?_
      refine StG.out ?_
      walk_at "st"
      refine ⟨numbersG is g, L, ms, n, p, q, xs, 41, rfl, pg, fr0, ok2, fun M fM frM => ?_⟩
      walk_at "st"
      refine ⟨so, ?_⟩
      walk_at "st"
      (first | rw [ne_selfS] | rw [ne_selfT])
      walk_at "st"
      refine ExG.out (w_viewE ?_)
      refine ExG.out (w_callF ?_)
      walk_at "st"
      refine w_mCallF2 ?_
      walk_at "st"
      refine ⟨g, is, 41, rfl, rfl, ok, hp, fun t2 L2 n2 p2 q2 xs2 pg2 fr2 => ?_⟩
      refine ⟨L2, M ++ ms, _, rfl, vw_pg pg2, ?_⟩
      walk_at "st"
      refine ⟨shw_pg ok2, ?_⟩
      walk_at "st"
      refine ⟨shw_pg ok2, ?_⟩
      walk_at "st"
      (first | rw [ne_selfS] | rw [ne_selfT])
      walk_at "st"
      unfold t_L_right_c3
      refine w_seq ?_
      refine StG.out ?_
      walk_at "st"
      rw [ln]
      refine w_mRng ⟨by omega, by omega⟩ ?_
      rw [Int.toNat_natCast, rng_natW]
      unfold natL
      simp only [wipeD, List.set]
      refine comp_e (fun (k : Nat) => D.int (k : Int)) (fun k => D.int ((is.idxOf k : Nat) : Int)) (List.range is.length) [] _ (by rw [List.length_range, List.length_nil]; omega) (fun k hk' P0 q => ?_) ?_
      · have hm : k ∈ is := hp.mem_iff.mpr (List.mem_range.mpr (by have := List.mem_range.mp hk'; omega))
        walk_at "st"
        refine w_mIndexA (natL_ints is) (first_at hm) ?_
        exact q
      rw [List.nil_append, show ((List.range is.length).map fun k => D.int ((is.idxOf k : Nat) : Int)) = natL (inv is) by unfold natL inv; rw [List.map_map]; rfl]
      walk_at "st"
      refine ExG.out (w_viewE ?_)
      refine ExG.out (w_callF ?_)
      walk_at "st"
      refine w_mCallF2 ?_
      walk_at "st"
      refine ExG.out (w_viewE ?_)
      refine ExG.out (w_callF ?_)
      walk_at "st"
      refine w_mCallF2 ?_
      walk_at "st"
      refine ⟨g, is, 41, rfl, rfl, ok, hp, fun t2 L2 n2 p2 q2 xs2 pg2 fr2 => ?_⟩
      refine ⟨L2, M ++ ms, _, rfl, vw_pg pg2, ?_⟩
      walk_at "st"
      have hi := inv_perm hp
      refine ⟨numbersG is g, inv is, 41, rfl, rfl, ok2, by first | exact hi | (show (inv is).Perm (List.range (movL is _).length); rw [movL_len]; exact hi), fun t3 L3 n3 p3 q3 xs3 pg3 fr3 => ?_⟩
      refine ⟨L3, M ++ ms, _, rfl, vw_pg pg3, ?_⟩
      walk_at "st"
      rw [numbers_inv ok hp]
      refine OpG.out (w_eq_pg ok (by decide) ?_)
      walk_at "st"
      exact h M fM frM
  · exact h.elim
theorem ok_L_right (T : Tx P K mg) : FnG P w K mg base 10 T.f_L_right T.d_L_right ["_law_own", "_law_led", "_law_door"] (spD K sp_L_right) := by
  have G_L_by_places := ok_L_by_places (P := P) (w := w) (base := base) T
  have G_L_by_numbers := ok_L_by_numbers (P := P) (w := w) (base := base) T
  have G_L_apart := ok_L_apart (P := P) (w := w) (base := base) T
  have G_p_places_ordered := ok_p_places_ordered (P := P) (w := w) (base := base) T
  have G_p_numbers_ordered := ok_p_numbers_ordered (P := P) (w := w) (base := base) T
  exact fnG_of (k := 9) (t := t_L_right) T.F_L_right sc_L_right len_L_right
    (fun cdv A outer s H hr => pdss_all (t' := tf_L_right T.f_L_by_numbers T.f_L_by_places T.f_p_numbers_ordered T.f_p_places_ordered) (pds_cons (pds_set (i := 3) sc_L_right.nd rfl (.inl rfl) (pd_ix ix_seq opd_ix (pd_lst (pda_cons (pd_glob (d := .opq (.ref T.f_p_places_ordered)) (v := .ref T.f_p_places_ordered) rfl T.g_p_places_ordered rfl (fun _ => .opq _)) (pda_cons (pd_glob (d := .opq (.ref T.f_p_numbers_ordered)) (v := .ref T.f_p_numbers_ordered) rfl T.g_p_numbers_ordered rfl (fun _ => .opq _)) (pda_nil)))) (pd_var 2))) (pds_cons (pds_set (i := 4) sc_L_right.nd rfl (.inl rfl) (pd_callF G_L_by_places G_L_by_numbers (hr.mono (by decide)) (hr.mono (by decide)) T.F_L_by_places.kp T.b_L_by_places_2 T.F_L_by_numbers.kp T.b_L_by_numbers_2 callE_ix (pd_ix ix_seq opd_ix (pd_lst (pda_cons (pd_glob (d := .opq (.ref T.f_L_by_places)) (v := .ref T.f_L_by_places) rfl T.g_L_by_places rfl (fun _ => .opq _)) (pda_cons (pd_glob (d := .opq (.ref T.f_L_by_numbers)) (v := .ref T.f_L_by_numbers) rfl T.g_L_by_numbers rfl (fun _ => .opq _)) (pda_nil)))) (pd_var 2)) (pda_cons (pd_var 0) (pda_cons (pd_var 1) (pda_nil))))) (pds_cons (pds_set (i := 5) sc_L_right.nd rfl (.inl rfl) (pd_callB (call_reprD hr) cal_repr rfl T.n_repr (by decide +kernel) (pda_cons (pd_lst (pda_cons (pd_var 0) (pda_cons (pd_var 1) (pda_nil)))) (pda_nil)))) (pds_cons (pds_set (i := 6) sc_L_right.nd rfl (.inl rfl) (pd_callF G_p_places_ordered G_p_numbers_ordered (hr.mono (by decide)) (hr.mono (by decide)) T.F_p_places_ordered.kp T.b_p_places_ordered_2 T.F_p_numbers_ordered.kp T.b_p_numbers_ordered_2 callE_name (pd_var 3) (pda_cons (pd_var 0) (pda_cons (pd_var 1) (pda_nil))))) (pds_cons (pds_if (pdt_w (pdw_or (pdt_cmpV (i := 6) (op_neF hr.r.units) opd_ne (pd_callB (call_reprD hr) cal_repr rfl T.n_repr (by decide +kernel) (pda_cons (pd_var 6) (pda_nil))) (pd_callB (call_reprD hr) cal_repr rfl T.n_repr (by decide +kernel) (pda_cons (pd_var 4) (pda_nil)))) (pdw_or1 (pdt_cmp (op_neF hr.r.units) opd_ne (pd_callB (call_reprD hr) cal_repr rfl T.n_repr (by decide +kernel) (pda_cons (pd_viewE (pd_callFK0 G_p_places_ordered G_p_numbers_ordered (hr.mono (by decide)) (hr.mono (by decide)) T.F_p_places_ordered.kp T.b_p_places_ordered_0_order_program T.F_p_numbers_ordered.kp T.b_p_numbers_ordered_0_order_program callE_name (pd_var 3) (pdk_cons (pd_var 1) (pdk_cons (pd_var 0) (pdk_nil))))) (pda_nil))) (pd_callB (call_reprD hr) cal_repr rfl T.n_repr (by decide +kernel) (pda_cons (pd_var 4) (pda_nil))))))) (pds_one (pds_ret (pd_bl))) (pds_nil)) (pds_cons (pds_if (pdt_not (pdt_val (pd_call G_L_apart (hr.mono (by decide)) rfl T.g_L_apart T.F_L_apart.kp T.b_L_apart_1 (pda_cons (pd_var 6) (pda_nil))))) (pds_one (pds_ret (pd_bl))) (pds_nil)) (pds_cons (pds_if (pdt_w (pdw_or (pdt_cmp (op_neF hr.r.units) opd_ne (pd_callB (call_reprD hr) cal_repr rfl T.n_repr (by decide +kernel) (pda_cons (pd_lst (pda_cons (pd_var 0) (pda_cons (pd_var 1) (pda_nil)))) (pda_nil))) (pd_var 5)) (pdw_or1 (pdt_cmp (op_neF hr.r.units) opd_ne (pd_callB (call_reprD hr) cal_repr rfl T.n_repr (by decide +kernel) (pda_cons (pd_viewE (pd_callF G_p_places_ordered G_p_numbers_ordered (hr.mono (by decide)) (hr.mono (by decide)) T.F_p_places_ordered.kp T.b_p_places_ordered_2 T.F_p_numbers_ordered.kp T.b_p_numbers_ordered_2 callE_name (pd_var 3) (pda_cons (pd_var 0) (pda_cons (pd_var 1) (pda_nil))))) (pda_nil))) (pd_callB (call_reprD hr) cal_repr rfl T.n_repr (by decide +kernel) (pda_cons (pd_var 4) (pda_nil))))))) (pds_one (pds_ret (pd_bl))) (pds_nil)) (pds_cons (pds_setLc (i := 7) (own := [("_law_number", 8)]) rfl sc_L_right.nd rfl rfl (sw_true rfl rfl rfl (by decide +kernel)) (pdi_range1 rfl T.n_range (pda_cons (pd_callB call_len cal_len rfl T.n_len (by decide +kernel) (pda_cons (pd_var 1) (pda_nil))) (pda_nil))) (blkOk_by (own := [("_law_number", 8)]) (by kernel_rfl)) (fun _ _ _ _ _ => pg_name (i := 8) sc_L_right.nd rfl (by first | exact .inl rfl | exact .inr rfl)) (tg_name (i := 8) (by decide)) (mon_name (i := 8)) (fun _ _ _ _ _ => pdts_nil) (fun _ _ _ _ _ => pd_index (pd_var 1) (pda_cons (pd_var 8) (pda_nil)))) (pds_one (pds_ret (pd_cmp (op_eqF hr.r.units) opd_eq (pd_viewE (pd_callF G_p_places_ordered G_p_numbers_ordered (hr.mono (by decide)) (hr.mono (by decide)) T.F_p_places_ordered.kp T.b_p_places_ordered_2 T.F_p_numbers_ordered.kp T.b_p_numbers_ordered_2 callE_name (pd_var 3) (pda_cons (pd_viewE (pd_callF G_p_places_ordered G_p_numbers_ordered (hr.mono (by decide)) (hr.mono (by decide)) T.F_p_places_ordered.kp T.b_p_places_ordered_2 T.F_p_numbers_ordered.kp T.b_p_numbers_ordered_2 callE_name (pd_var 3) (pda_cons (pd_var 0) (pda_cons (pd_var 1) (pda_nil))))) (pda_cons (pd_var 7) (pda_nil))))) (pd_var 0)))))))))))) (fun E ds ms h => h T.f_L_by_numbers T.f_L_by_places T.f_p_numbers_ordered T.f_p_places_ordered))
    sem_L_right
def sp_L_law : FS := fun ds ms P => match ds with
  | [.fro xs] => ∃ ns : List Int, xs = ns.map D.int ∧ flatM ms ∧ ∀ ms', P (.bl true) ms'
  | _ => False
theorem len_L_law : ∀ ds ms Q, sp_L_law ds ms Q → ds.length = 1 := fun ds ms Q h => by
  unfold sp_L_law at h
  split at h <;> first | rfl | exact h.elim
def t_L_law_c3 : DTS := dSeq (dAsg (dViewE (dCall 2 0 [0, 1] sp_p_places_ordered (aCons (dViewE (dCall 2 0 [0, 1] sp_p_numbers_ordered (aCons (dVar 3) (aCons (dOp fIx (dVar 4) (dC (.int 1))) (aNil))) (aNil))) (aCons (dOp fIx (dVar 4) (dC (.int 0))) (aNil))) (aNil))) (sName 8)) (dIfS (dTest (dOp fNe (dVar 8) (dViewE (dCall 2 0 [0, 1] sp_p_numbers_ordered (aCons (dViewE (dCall 2 0 [0, 1] sp_p_places_ordered (aCons (dVar 3) (aCons (dOp fIx (dVar 4) (dC (.int 0))) (aNil))) (aNil))) (aCons (dOp fIx (dVar 4) (dC (.int 1))) (aNil))) (aNil))))) (dRet (dC (.bl false))) (dNext))
def t_L_law_c2 : DTS := dSeq (dFor (iRange1 (aCons (dC (.int 2)) (aNil))) (sName 5) (dSeq (dIfS (dNot (dTest (dCall 3 0 [0, 1, 2] sp_L_right (aCons (dVar 3) (aCons (dOp fIx (dVar 4) (dVar 5)) (aCons (dVar 5) (aNil)))) (aNil)))) (dRet (dC (.bl false))) (dNext)) (dFor (iRange1 (aCons (dC (.int 4)) (aNil))) (sName 6) (dSeq (dAsg (dCall 2 0 [0, 1] sp_L_no_order (aCons (dVar 2) (aCons (dOp fIx (dVar 4) (dVar 5)) (aNil))) (aNil)) (sName 7)) (dSeq (dIfS (dAnd (dTest (dOp fEqX (dVar 7) (dLst (aCons (dC (.int 0)) (aNil))))) (dTest (dOp fEqX (dCB cLen (aCons (dOp fIx (dVar 4) (dVar 5)) (aNil))) (dC (.int 1))))) (dAsg (dLst (aCons (dC (.int 1)) (aNil))) (sName 7)) (dNext)) (dIfS (dNot (dTest (dCall 3 0 [0, 1, 2] sp_L_refused (aCons (dVar 5) (aCons (dVar 3) (aCons (dVar 7) (aNil)))) (aNil)))) (dRet (dC (.bl false))) (dNext))))))) (t_L_law_c3)
def t_L_law_c1 : DTS := dSeq (dViewS 3 (dAsg (dLst (aCons (dCall 2 0 [0, 1] sp_L_order (aCons (dVar 2) (aCons (dCB cLen (aCons (dOp fIx (dVar 3) (dC (.int 1))) (aNil))) (aNil))) (aNil)) (aCons (dCall 2 0 [0, 1] sp_L_order (aCons (dVar 2) (aCons (dCB cLen (aCons (dOp fIx (dVar 3) (dC (.int 0))) (aNil))) (aNil))) (aNil)) (aNil)))) (sName 4))) (t_L_law_c2)
def t_L_law : DTS := dSeq (dFor (iRange1 (aCons (dCB cMax2 (aCons (dC (.int 1)) (aCons (dCB cMin2 (aCons (dCB cLen (aCons (dVar 0) (aNil))) (aCons (dC (.int 16)) (aNil)))) (aNil)))) (aNil))) (sName 1) (dSeq (dAsg (dCall 2 0 [0, 1] sp_L_pool (aCons (dVar 0) (aCons (dVar 1) (aNil))) (aNil)) (sName 2)) (dSeq (dAsg (dCall 3 0 [0, 1, 2] sp_L_program (aCons (dVar 2) (aCons (dC (.int 6)) (aCons (dC (.int 10)) (aNil)))) (aNil)) (sName 3)) (dSeq (dIfS (dAnd (dTest (dView 3 (dOp fNe (dOp fIx (dVar 3) (dC (.int 2))) (dLst (aNil))))) (dAnd (dTest (dView 3 (dOp fLt (dCB cLen (aCons (dOp fIx (dVar 3) (dC (.int 2))) (aNil))) (dC (.int 10))))) (dTest (dOp fEq (dCall 2 0 [0, 1] sp_L_take (aCons (dVar 2) (aCons (dC (.int 2)) (aNil))) (aNil)) (dC (.int 0)))))) (dDrop (dAppend (dOp fIx (dVar 3) (dC (.int 2))) (aCons (dOp fIx (dOp fIx (dVar 3) (dC (.int 2))) (dC (.int 0))) (aNil)))) (dNext)) (t_L_law_c1))))) (dRet (dC (.bl true)))
theorem w_eqX_ii {i j : Int} {ms : MS} {P : D → MS → Prop} (h : fEq (.int i) (.int j) ms P) : fEqX (.int i) (.int j) ms P := h
theorem comm_pn {g : Pg} {is js : List Nat} : placesG is (numbersG js g) = numbersG js (placesG is g) := by
  unfold placesG numbersG
  simp only
  rw [List.map_map, List.map_map]
  rfl
section
variable {g : Pg} {p : Addr} {m : MS} {E : EN} {N : DS → MS → Prop} {x0 x1 x4 x5 x6 x7 x8 : Option D} {is js : List Nat}
/-- what is drawn and asked -/
structure Drw (g : Pg) (is js : List Nat) : Prop where
  ok : PgOk 41 g
  pi : is.Perm (List.range g.pm.length)
  pj : js.Perm (List.range g.nm.length)
theorem law_c3 (w : Drw g is js) (pm : PoolAt m p) (fm : flatM m)
    (hN : ∀ m' y4 y5 y6 y7 y8, PoolAt m' p → flatM m' → N [x0, x1, some (.opq (.ref p)), some (pgD g), y4, y5, y6, y7, y8] m') :
    t_L_law_c3 (EN.lp E N) [x0, x1, some (.opq (.ref p)), some (pgD g), some (.lst [natsD is, natsD js]), x5, x6, x7, x8] m := by
  have ok1 := placesG_ok w.ok w.pi
  have ok2 := numbersG_ok w.ok w.pj
  unfold t_L_law_c3
  walk_at "st"
  refine ExG.out (w_viewE ?_)
  walk_at "st"
  refine ExG.out (w_viewE ?_)
  walk_at "st"
  refine ⟨g, js, 41, rfl, rfl, w.ok, w.pj, fun t L n p' q xs pg fr0 => ?_⟩
  refine ⟨L, m, _, rfl, vw_pg pg, ?_⟩
  walk_at "st"
  refine ⟨numbersG js g, is, 41, rfl, rfl, ok2, w.pi, fun t L n p' q xs pg fr0 => ?_⟩
  refine ⟨L, m, _, rfl, vw_pg pg, ?_⟩
  walk_at "st"
  refine ExG.out (w_viewE ?_)
  walk_at "st"
  refine ExG.out (w_viewE ?_)
  walk_at "st"
  refine ⟨g, is, 41, rfl, rfl, w.ok, w.pi, fun t L n p' q xs pg fr0 => ?_⟩
  refine ⟨L, m, _, rfl, vw_pg pg, ?_⟩
  walk_at "st"
  refine ⟨placesG is g, js, 41, rfl, rfl, ok1, w.pj, fun t L n p' q xs pg fr0 => ?_⟩
  refine ⟨L, m, _, rfl, vw_pg pg, ?_⟩
  walk_at "st"
  rw [comm_pn]
  refine OpG.out (w_ne_pg (numbersG_ok ok1 w.pj) (by decide) ?_)
  walk_at "st"
  exact hN _ _ _ _ _ _ pm fm
theorem law_c2 (w : Drw g is js) (pm : PoolAt m p) (fm : flatM m)
    (hN : ∀ m' y4 y5 y6 y7 y8, PoolAt m' p → flatM m' → N [x0, x1, some (.opq (.ref p)), some (pgD g), y4, y5, y6, y7, y8] m') :
    t_L_law_c2 (EN.lp E N) [x0, x1, some (.opq (.ref p)), some (pgD g), some (.lst [natsD is, natsD js]), x5, x6, x7, x8] m := by
  have nl := w.ok.nm.l2
  have pl := w.ok.pm.l2
  have nl1 := w.ok.nm.l1
  have pl1 := w.ok.pm.l1
  unfold t_L_law_c2
  walk_at "st"
  refine loop_inv (fun ds m' => PoolAt m' p ∧ flatM m' ∧ ∃ x5 x6 x7 x8, ds = [x0, x1, some (.opq (.ref p)), some (pgD g), some (.lst [natsD is, natsD js]), x5, x6, x7, x8]) _ _ _ ⟨pm, fm, _, _, _, _, rfl⟩ ?_ ?_
  · rintro x hx ds m' ⟨pm', fm', y5, y6, y7, y8, rfl⟩ G hG
    obtain ⟨i, hi, rfl⟩ := rng_mem hx
    have hi : i = 0 ∨ i = 1 := by have hi : i < 2 := hi; omega
    rcases hi with rfl | rfl
    · have il := Ord.len w.pi
      walk_at "st"
      refine ⟨g, is, false, rfl, rfl, rfl, w.ok, w.pi, fm', fun M fM frM => ?_⟩
      have pm2 := pool_app pm' frM
      have fm2 := flatM_app fM fm'
      generalize (M ++ m' : MS) = m2 at pm2 fm2
      walk_at "st"
      refine loop_inv (fun ds m' => PoolAt m' p ∧ flatM m' ∧ ∃ x6 x7 x8, ds = [x0, x1, some (.opq (.ref p)), some (pgD g), some (.lst [natsD is, natsD js]), some (.int (0)), x6, x7, x8]) _ _ _ ⟨pm2, fm2, _, _, _, rfl⟩ ?_ ?_
      · rintro x hx ds m3 ⟨pm3, fm3, z6, z7, z8, rfl⟩ G2 hG2
        walk_at "st"
        refine ⟨is, rfl, pm3, by rw [il]; exact w.pi, by omega, by omega, fun x bad m4 p4 c4 => ?_⟩
        have fm4 := flatM_chg fm3 c4
        rw [il] at bad
        walk_at "st"
        refine OpG.out (bad.eq (sh_intsO [0]) fun b => ?_)
        cases b with
        | false =>
          walk_at "st"
          refine ⟨g, 41, rfl, w.ok, bad.any, .inl ⟨rfl, bad.no⟩, ?_⟩
          walk_at "st"
          exact hG2 _ _ ⟨p4, fm4, _, _, _, rfl⟩
        | true =>
          walk_at "st"
          refine (show CbG cLen [.lst (natL is)] _ _ from ?_)
          walk_at "st"
          refine OpG.out (w_eqX_ii (w_eq_ii ?_))
          rw [show (natL is).length = is.length from List.length_map ..]
          cases hd : ((is.length : Int) == 1) with
          | false =>
            walk_at "st"
            refine ⟨g, 41, rfl, w.ok, bad.any, .inl ⟨rfl, bad.no⟩, ?_⟩
            walk_at "st"
            exact hG2 _ _ ⟨p4, fm4, _, _, _, rfl⟩
          | true =>
            have h1 := eq_of_beq hd
            walk_at "st"
            refine ⟨g, 41, rfl, w.ok, AnyX.mkL (by simp) (fun x hx => by rw [List.mem_singleton.mp hx]; exact AnyX.int' (by unfold Bd; decide)), .inl ⟨rfl, no_ord (x := .int 1) (by simp) ?_⟩, ?_⟩
            · rw [← il, h1]; rfl
            walk_at "st"
            exact hG2 _ _ ⟨p4, fm4, _, _, _, rfl⟩
      · rintro ds m3 ⟨pm3, fm3, z6, z7, z8, rfl⟩
        walk_at "st"
        exact hG _ _ ⟨pm3, fm3, _, _, _, _, rfl⟩
    · have il := Ord.len w.pj
      walk_at "st"
      refine ⟨g, js, true, rfl, rfl, rfl, w.ok, w.pj, fm', fun M fM frM => ?_⟩
      have pm2 := pool_app pm' frM
      have fm2 := flatM_app fM fm'
      generalize (M ++ m' : MS) = m2 at pm2 fm2
      walk_at "st"
      refine loop_inv (fun ds m' => PoolAt m' p ∧ flatM m' ∧ ∃ x6 x7 x8, ds = [x0, x1, some (.opq (.ref p)), some (pgD g), some (.lst [natsD is, natsD js]), some (.int (1)), x6, x7, x8]) _ _ _ ⟨pm2, fm2, _, _, _, rfl⟩ ?_ ?_
      · rintro x hx ds m3 ⟨pm3, fm3, z6, z7, z8, rfl⟩ G2 hG2
        walk_at "st"
        refine ⟨js, rfl, pm3, by rw [il]; exact w.pj, by omega, by omega, fun x bad m4 p4 c4 => ?_⟩
        have fm4 := flatM_chg fm3 c4
        rw [il] at bad
        walk_at "st"
        refine OpG.out (bad.eq (sh_intsO [0]) fun b => ?_)
        cases b with
        | false =>
          walk_at "st"
          refine ⟨g, 41, rfl, w.ok, bad.any, .inr ⟨rfl, bad.no⟩, ?_⟩
          walk_at "st"
          exact hG2 _ _ ⟨p4, fm4, _, _, _, rfl⟩
        | true =>
          walk_at "st"
          refine (show CbG cLen [.lst (natL js)] _ _ from ?_)
          walk_at "st"
          refine OpG.out (w_eqX_ii (w_eq_ii ?_))
          rw [show (natL js).length = js.length from List.length_map ..]
          cases hd : ((js.length : Int) == 1) with
          | false =>
            walk_at "st"
            refine ⟨g, 41, rfl, w.ok, bad.any, .inr ⟨rfl, bad.no⟩, ?_⟩
            walk_at "st"
            exact hG2 _ _ ⟨p4, fm4, _, _, _, rfl⟩
          | true =>
            have h1 := eq_of_beq hd
            walk_at "st"
            refine ⟨g, 41, rfl, w.ok, AnyX.mkL (by simp) (fun x hx => by rw [List.mem_singleton.mp hx]; exact AnyX.int' (by unfold Bd; decide)), .inr ⟨rfl, no_ord (x := .int 1) (by simp) ?_⟩, ?_⟩
            · rw [← il, h1]; rfl
            walk_at "st"
            exact hG2 _ _ ⟨p4, fm4, _, _, _, rfl⟩
      · rintro ds m3 ⟨pm3, fm3, z6, z7, z8, rfl⟩
        walk_at "st"
        exact hG _ _ ⟨pm3, fm3, _, _, _, _, rfl⟩
  · rintro ds m' ⟨pm', fm', y5, y6, y7, y8, rfl⟩
    walk_at "st"
    exact law_c3 w pm' fm' hN
theorem law_c1 {q : Addr} (ok : PgOk 41 g) (pm : PoolAt m p) (fm : flatM m)
    (hN : ∀ m' y4 y5 y6 y7 y8, PoolAt m' p → flatM m' → N [x0, x1, some (.opq (.ref p)), some (pgD g), y4, y5, y6, y7, y8] m') :
    t_L_law_c1 (EN.lp E N) [x0, x1, some (.opq (.ref p)), some (.tup [.lst (g.nm.map D.str), .lst (g.pm.map D.str), .opq (.ref q)]), x4, x5, x6, x7, x8] ((q, g.rs.map rwD) :: m) := by
  have rl := ok.rl
  have nl := ok.nm.l2
  have pl := ok.pm.l2
  have vw : Vw [(q, g.rs.map rwD)] (.tup [.lst (g.nm.map D.str), .lst (g.pm.map D.str), .opq (.ref q)]) (pgD g) := .tup (.cons .same (.cons .same (.cons (.lst List.mem_cons_self (VwS.same _)) .nil)))
  unfold t_L_law_c1
  refine w_seq ?_
  refine StG.out (w_viewS [(q, g.rs.map rwD)] m rfl rfl vw rfl ?_)
  rw [show pgD g = .tup [.lst (g.nm.map D.str), .lst (g.pm.map D.str), .lst (g.rs.map rwD)] from rfl]
  walk_at "st"
  rw [List.length_map]
  refine ⟨g.pm.length, rfl, by omega, pm, fun is hi m2 p2 f2 => ?_⟩
  walk_at "st"
  rw [List.length_map]
  refine ⟨g.nm.length, rfl, by omega, p2, fun js hj m3 p3 f3 => ?_⟩
  walk_at "st"
  exact law_c2 ⟨ok, hi, hj⟩ p3 (f3 (f2 fm)) hN
end
theorem sem_L_law : ∀ ds ms Q, sp_L_law ds ms Q → t_L_law { nx := fun _ m => Q .non m, rt := Q } (startD 9 ds) ms := by
  intro ds ms Q h
  unfold sp_L_law at h
  split at h
  · obtain ⟨ns, rfl, fm, h⟩ := h
    simp only [startD]
    unfold t_L_law
    walk_at "st"
    have hy := cells_le 16 (by decide) (ns.map D.int).length
    generalize (if (if 16 < ((ns.map D.int).length : Int) then 16 else ((ns.map D.int).length : Int)) > 1 then if 16 < ((ns.map D.int).length : Int) then 16 else ((ns.map D.int).length : Int) else 1) = y at hy
    refine w_mRng ⟨by omega, by omega⟩ ?_
    refine loop_inv (fun ds ms => flatM ms ∧ ∃ x1 x2 x3 x4 x5 x6 x7 x8, ds = [some (.fro (ns.map D.int)), x1, x2, x3, x4, x5, x6, x7, x8]) _ _ _ ⟨fm, _, _, _, _, _, _, _, _, rfl⟩ ?_ ?_
    · rintro x hx ds ms ⟨fm, x1, x2, x3, x4, x5, x6, x7, x8, rfl⟩ N hN
      obtain ⟨i, hi, rfl⟩ := rng_mem hx
      walk_at "st"
      refine ⟨ns, rfl, by omega, by omega, fun p hp a b o => ?_⟩
      have p0 : PoolAt ((p, [.int a, .int b]) :: ms) p := .new o
      have fm0 : flatM ((p, [D.int a, D.int b]) :: ms) := flatM_cons fm (flats_ints [a, b])
      generalize ((p, [D.int a, D.int b]) :: ms) = m0 at p0 fm0
      walk_at "st"
      refine ⟨p0, by decide, by decide, by decide, by decide, fun g q m1 ok l1 l2 hne hq p1 c1 => ?_⟩
      have fm1 := flatM_chg fm0 c1
      have rl := ok.rl
      have vw : Vw [(q, g.rs.map rwD)] (.tup [.lst (g.nm.map D.str), .lst (g.pm.map D.str), .opq (.ref q)]) (pgD g) := .tup (.cons .same (.cons .same (.cons (.lst List.mem_cons_self (VwS.same _)) .nil)))
      walk_at "st"
      refine ExG.out (w_view [(q, g.rs.map rwD)] m1 rfl rfl vw rfl ?_)
      rw [show pgD g = .tup [.lst (g.nm.map D.str), .lst (g.pm.map D.str), .lst (g.rs.map rwD)] from rfl]
      walk_at "st"
      refine ⟨rfl, fm1, ?_⟩
      have fin : ∀ (g2 : Pg) (m : MS), PgOk 41 g2 → PoolAt m p → flatM m → ∀ (x1 : Option D) (E : EN), t_L_law_c1 (EN.lp E N) [some (.fro (ns.map D.int)), x1, some (.opq (.ref p)), some (.tup [.lst (g2.nm.map D.str), .lst (g2.pm.map D.str), .opq (.ref q)]), x4, x5, x6, x7, x8] ((q, g2.rs.map rwD) :: m) := fun g2 m ok2 pm fm x1 E => law_c1 ok2 pm fm fun m' y4 y5 y6 y7 y8 pm' fm' => hN _ _ ⟨fm', _, _, _, _, _, _, _, _, rfl⟩
      cases he : (!(g.rs.map rwD).isEmpty) with
      | false =>
        walk_at "st"
        exact fin g m1 ok p1 fm1 _ _
      | true =>
        walk_at "st"
        refine ExG.out (w_view [(q, g.rs.map rwD)] m1 rfl rfl vw rfl ?_)
        rw [show pgD g = .tup [.lst (g.nm.map D.str), .lst (g.pm.map D.str), .lst (g.rs.map rwD)] from rfl]
        walk_at "st"
        refine ⟨rfl, fm1, ?_⟩
        rw [List.length_map]
        cases hl : decide ((g.rs.length : Int) < 10) with
        | false =>
          walk_at "st"
          exact fin g m1 ok p1 fm1 _ _
        | true =>
          have hl := of_decide_eq_true hl
          walk_at "st"
          refine take_stepC hne p1 (by decide) (by decide) fun r a2 b2 m2 p2 c2 => ?_
          have fm2 := flatM_chg fm1 c2
          walk_at "st"
          cases hd : (r == 0) with
          | false =>
            walk_at "st"
            exact fin g m2 ok p2 fm2 _ _
          | true =>
            obtain ⟨r0, rest, er⟩ : ∃ r0 rest, g.rs = r0 :: rest := by
              cases e : g.rs with
              | nil => rw [e] at he; cases he
              | cons a b => exact ⟨a, b, rfl⟩
            have e0 : atI (g.rs.map rwD) 0 = some (rwD r0) := by rw [er]; exact w_at0 _ _
            walk_at "st"
            refine w_ix_o look_new e0 ?_
            walk_at "st"
            refine ⟨Nat.lt_of_lt_of_le (show (g.rs.map rwD).length < 20 by rw [List.length_map]; omega) (by decide), ?_⟩
            walk_at "st"
            have e3 : ((q, g.rs.map rwD ++ [rwD r0]) :: m2 : MS) = (q, (g.rs ++ [r0]).map rwD) :: m2 := by rw [List.map_append]; rfl
            rw [e3]
            exact fin ⟨g.nm, g.pm, g.rs ++ [r0]⟩ m2 ⟨ok.nm, ok.pm, by show (g.rs ++ [r0]).length ≤ 10; rw [List.length_append, List.length_singleton]; omega, fun z hz => by
              rcases List.mem_append.mp hz with hz | hz
              · exact ok.ro z hz
              · rw [List.mem_singleton.mp hz]; exact ok.ro r0 (by rw [er]; exact List.mem_cons_self)⟩ p2 fm2 (some (.int (0 + (i : Int)))) _
    · rintro ds m ⟨fm, x1, x2, x3, x4, x5, x6, x7, x8, rfl⟩
      walk_at "st"
      exact h m
  · exact h.elim
theorem ok_L_law (T : Tx P K mg) : FnG P w K mg base 11 T.f_L_law T.d_L_law ["_law_script"] (spD K sp_L_law) := by
  have G_L_pool := ok_L_pool (P := P) (w := w) (base := base) T
  have G_L_program := ok_L_program (P := P) (w := w) (base := base) T
  have G_p_places_ordered := ok_p_places_ordered (P := P) (w := w) (base := base) T
  have G_L_order := ok_L_order (P := P) (w := w) (base := base) T
  have G_p_numbers_ordered := ok_p_numbers_ordered (P := P) (w := w) (base := base) T
  have G_L_take := ok_L_take (P := P) (w := w) (base := base) T
  have G_L_right := ok_L_right (P := P) (w := w) (base := base) T
  have G_L_no_order := ok_L_no_order (P := P) (w := w) (base := base) T
  have G_L_refused := ok_L_refused (P := P) (w := w) (base := base) T
  exact fnG_of (k := 10) (t := t_L_law) T.F_L_law sc_L_law len_L_law
    (fun cdv A outer s H hr => pds_cons (pds_for (vs := [1]) rfl (pdi_range1 rfl T.n_range (pda_cons (pd_callB (call_max2 rfl) cal_max2 rfl T.n_max (by decide +kernel) (pda_cons (pd_int) (pda_cons (pd_callB (call_min2 rfl) cal_min2 rfl T.n_min (by decide +kernel) (pda_cons (pd_callB call_len cal_len rfl T.n_len (by decide +kernel) (pda_cons (pd_var 0) (pda_nil))) (pda_cons (pd_int) (pda_nil)))) (pda_nil)))) (pda_nil))) (pg_name (i := 1) sc_L_law.nd rfl (.inl rfl)) (tg_name (i := 1) (by decide)) (pds_cons (pds_set (i := 2) sc_L_law.nd rfl (.inl rfl) (pd_call G_L_pool (hr.mono (by decide)) rfl T.g_L_pool T.F_L_pool.kp T.b_L_pool_2 (pda_cons (pd_var 0) (pda_cons (pd_var 1) (pda_nil))))) (pds_cons (pds_set (i := 3) sc_L_law.nd rfl (.inl rfl) (pd_call G_L_program (hr.mono (by decide)) rfl T.g_L_program T.F_L_program.kp T.b_L_program_3 (pda_cons (pd_var 2) (pda_cons (pd_int) (pda_cons (pd_int) (pda_nil)))))) (pds_cons (pds_if (pdt_w (pdw_and (pdt_cmpV (i := 3) (op_neF hr.r.units) opd_ne (pd_ix ix_seq opd_ix (pd_var 3) (pd_int)) (pd_lst (pda_nil))) (pdw_and (pdt_cmpV (i := 3) op_lt opd_lt (pd_callB call_len cal_len rfl T.n_len (by decide +kernel) (pda_cons (pd_ix ix_seq opd_ix (pd_var 3) (pd_int)) (pda_nil))) (pd_int)) (pdw_and1 (pdt_cmp (op_eqF hr.r.units) opd_eq (pd_call G_L_take (hr.mono (by decide)) rfl T.g_L_take T.F_L_take.kp T.b_L_take_2 (pda_cons (pd_var 2) (pda_cons (pd_int) (pda_nil)))) (pd_int)))))) (pds_one (pds_expr (pd_append (pd_ix ix_seq opd_ix (pd_var 3) (pd_int)) (pda_cons (pd_ix ix_seq opd_ix (pd_ix ix_seq opd_ix (pd_var 3) (pd_int)) (pd_int)) (pda_nil))))) (pds_nil)) (pds_cons (pds_view (i := 3) (pds_set (i := 4) sc_L_law.nd rfl (.inl rfl) (pd_lst (pda_cons (pd_call G_L_order (hr.mono (by decide)) rfl T.g_L_order T.F_L_order.kp T.b_L_order_2 (pda_cons (pd_var 2) (pda_cons (pd_callB call_len cal_len rfl T.n_len (by decide +kernel) (pda_cons (pd_ix ix_seq opd_ix (pd_var 3) (pd_int)) (pda_nil))) (pda_nil)))) (pda_cons (pd_call G_L_order (hr.mono (by decide)) rfl T.g_L_order T.F_L_order.kp T.b_L_order_2 (pda_cons (pd_var 2) (pda_cons (pd_callB call_len cal_len rfl T.n_len (by decide +kernel) (pda_cons (pd_ix ix_seq opd_ix (pd_var 3) (pd_int)) (pda_nil))) (pda_nil)))) (pda_nil)))))) (pds_cons (pds_for (vs := [5]) rfl (pdi_range1 rfl T.n_range (pda_cons (pd_int) (pda_nil))) (pg_name (i := 5) sc_L_law.nd rfl (.inl rfl)) (tg_name (i := 5) (by decide)) (pds_cons (pds_if (pdt_not (pdt_val (pd_call G_L_right (hr.mono (by decide)) rfl T.g_L_right T.F_L_right.kp T.b_L_right_3 (pda_cons (pd_var 3) (pda_cons (pd_ix ix_seq opd_ix (pd_var 4) (pd_var 5)) (pda_cons (pd_var 5) (pda_nil))))))) (pds_one (pds_ret (pd_bl))) (pds_nil)) (pds_one (pds_for (vs := [6]) rfl (pdi_range1 rfl T.n_range (pda_cons (pd_int) (pda_nil))) (pg_name (i := 6) sc_L_law.nd rfl (.inl rfl)) (tg_name (i := 6) (by decide)) (pds_cons (pds_set (i := 7) sc_L_law.nd rfl (.inl rfl) (pd_call G_L_no_order (hr.mono (by decide)) rfl T.g_L_no_order T.F_L_no_order.kp T.b_L_no_order_2 (pda_cons (pd_var 2) (pda_cons (pd_ix ix_seq opd_ix (pd_var 4) (pd_var 5)) (pda_nil))))) (pds_cons (pds_if (pdt_w (pdw_and (pdt_cmp (op_eqX hr.r.units) opd_eqX (pd_var 7) (pd_lst (pda_cons (pd_int) (pda_nil)))) (pdw_and1 (pdt_cmp (op_eqX hr.r.units) opd_eqX (pd_callB call_len cal_len rfl T.n_len (by decide +kernel) (pda_cons (pd_ix ix_seq opd_ix (pd_var 4) (pd_var 5)) (pda_nil))) (pd_int))))) (pds_one (pds_set (i := 7) sc_L_law.nd rfl (.inl rfl) (pd_lst (pda_cons (pd_int) (pda_nil))))) (pds_nil)) (pds_one (pds_if (pdt_not (pdt_val (pd_call G_L_refused (hr.mono (by decide)) rfl T.g_L_refused T.F_L_refused.kp T.b_L_refused_3 (pda_cons (pd_var 5) (pda_cons (pd_var 3) (pda_cons (pd_var 7) (pda_nil))))))) (pds_one (pds_ret (pd_bl))) (pds_nil))))))))) (pds_cons (pds_set (i := 8) sc_L_law.nd rfl (.inl rfl) (pd_viewE (pd_call G_p_places_ordered (hr.mono (by decide)) rfl T.g_p_places_ordered T.F_p_places_ordered.kp T.b_p_places_ordered_2 (pda_cons (pd_viewE (pd_call G_p_numbers_ordered (hr.mono (by decide)) rfl T.g_p_numbers_ordered T.F_p_numbers_ordered.kp T.b_p_numbers_ordered_2 (pda_cons (pd_var 3) (pda_cons (pd_ix ix_seq opd_ix (pd_var 4) (pd_int)) (pda_nil))))) (pda_cons (pd_ix ix_seq opd_ix (pd_var 4) (pd_int)) (pda_nil)))))) (pds_one (pds_if (pdt_cmp (op_neF hr.r.units) opd_ne (pd_var 8) (pd_viewE (pd_call G_p_numbers_ordered (hr.mono (by decide)) rfl T.g_p_numbers_ordered T.F_p_numbers_ordered.kp T.b_p_numbers_ordered_2 (pda_cons (pd_viewE (pd_call G_p_places_ordered (hr.mono (by decide)) rfl T.g_p_places_ordered T.F_p_places_ordered.kp T.b_p_places_ordered_2 (pda_cons (pd_var 3) (pda_cons (pd_ix ix_seq opd_ix (pd_var 4) (pd_int)) (pda_nil))))) (pda_cons (pd_ix ix_seq opd_ix (pd_var 4) (pd_int)) (pda_nil)))))) (pds_one (pds_ret (pd_bl))) (pds_nil)))))))))) (pds_one (pds_ret (pd_bl))))
    sem_L_law
end
theorem all_mk {l : PySem.W.OpenLaw} {w : World} {K : PySem.W.Frag} {h : Heap} {mg : Str → Option Value} {fa : Addr} (X : K.In h) (G : h.Ns mainGlobals mg) (hfa : mg "law" = some (.ref fa))
    {f0 : Addr} {od0 an0 : Option Addr} {sl0 : Array (Option Value)} {oc0 kV0 dc0 pm0 cd0 ct0 : Value}
    {f1 : Addr} {od1 an1 : Option Addr} {sl1 : Array (Option Value)} {oc1 kV1 dc1 pm1 cd1 ct1 : Value}
    {f2 : Addr} {od2 an2 : Option Addr} {sl2 : Array (Option Value)} {oc2 kV2 dc2 pm2 cd2 ct2 : Value}
    {f3 : Addr} {od3 an3 : Option Addr} {sl3 : Array (Option Value)} {oc3 kV3 dc3 pm3 cd3 ct3 : Value}
    {f4 : Addr} {od4 an4 : Option Addr} {sl4 : Array (Option Value)} {oc4 kV4 dc4 pm4 cd4 ct4 : Value}
    {f5 : Addr} {od5 an5 : Option Addr} {sl5 : Array (Option Value)} {oc5 kV5 dc5 pm5 cd5 ct5 : Value}
    {f6 : Addr} {od6 an6 : Option Addr} {sl6 : Array (Option Value)} {oc6 kV6 dc6 pm6 cd6 ct6 : Value}
    {f7 : Addr} {od7 an7 : Option Addr} {sl7 : Array (Option Value)} {oc7 kV7 dc7 pm7 cd7 ct7 : Value}
    {f8 : Addr} {od8 an8 : Option Addr} {sl8 : Array (Option Value)} {oc8 kV8 dc8 pm8 cd8 ct8 : Value}
    {f9 : Addr} {od9 an9 : Option Addr} {sl9 : Array (Option Value)} {oc9 kV9 dc9 pm9 cd9 ct9 : Value}
    {f10 : Addr} {od10 an10 : Option Addr} {sl10 : Array (Option Value)} {oc10 kV10 dc10 pm10 cd10 ct10 : Value}
    {f11 : Addr} {od11 an11 : Option Addr} {sl11 : Array (Option Value)} {oc11 kV11 dc11 pm11 cd11 ct11 : Value}
    {f12 : Addr} {od12 an12 : Option Addr} {sl12 : Array (Option Value)} {oc12 kV12 dc12 pm12 cd12 ct12 : Value}
    {f13 : Addr} {od13 an13 : Option Addr} {sl13 : Array (Option Value)} {oc13 kV13 dc13 pm13 cd13 ct13 : Value}
    {f14 : Addr} {od14 an14 : Option Addr} {sl14 : Array (Option Value)} {oc14 kV14 dc14 pm14 cd14 ct14 : Value}
    {f15 : Addr} {od15 an15 : Option Addr} {sl15 : Array (Option Value)} {oc15 kV15 dc15 pm15 cd15 ct15 : Value}
    {f16 : Addr} {od16 an16 : Option Addr} {sl16 : Array (Option Value)} {oc16 kV16 dc16 pm16 cd16 ct16 : Value}
    {f17 : Addr} {od17 an17 : Option Addr} {sl17 : Array (Option Value)} {oc17 kV17 dc17 pm17 cd17 ct17 : Value}
    {f18 : Addr} {od18 an18 : Option Addr} {sl18 : Array (Option Value)} {oc18 kV18 dc18 pm18 cd18 ct18 : Value}
    {f19 : Addr} {od19 an19 : Option Addr} {sl19 : Array (Option Value)} {oc19 kV19 dc19 pm19 cd19 ct19 : Value}
    {f20 : Addr} {od20 an20 : Option Addr} {sl20 : Array (Option Value)} {oc20 kV20 dc20 pm20 cd20 ct20 : Value}
    {f21 : Addr} {od21 an21 : Option Addr} {sl21 : Array (Option Value)} {oc21 kV21 dc21 pm21 cd21 ct21 : Value}
    {f22 : Addr} {od22 an22 : Option Addr} {sl22 : Array (Option Value)} {oc22 kV22 dc22 pm22 cd22 ct22 : Value}
    {f23 : Addr} {od23 an23 : Option Addr} {sl23 : Array (Option Value)} {oc23 kV23 dc23 pm23 cd23 ct23 : Value}
    {f24 : Addr} {od24 an24 : Option Addr} {sl24 : Array (Option Value)} {oc24 kV24 dc24 pm24 cd24 ct24 : Value}
    {f25 : Addr} {od25 an25 : Option Addr} {sl25 : Array (Option Value)} {oc25 kV25 dc25 pm25 cd25 ct25 : Value}
    {f26 : Addr} {od26 an26 : Option Addr} {sl26 : Array (Option Value)} {oc26 kV26 dc26 pm26 cd26 ct26 : Value}
    {f27 : Addr} {od27 an27 : Option Addr} {sl27 : Array (Option Value)} {oc27 kV27 dc27 pm27 cd27 ct27 : Value}
    {f28 : Addr} {od28 an28 : Option Addr} {sl28 : Array (Option Value)} {oc28 kV28 dc28 pm28 cd28 ct28 : Value}
    {f29 : Addr} {od29 an29 : Option Addr} {sl29 : Array (Option Value)} {oc29 kV29 dc29 pm29 cd29 ct29 : Value}
    {f30 : Addr} {od30 an30 : Option Addr} {sl30 : Array (Option Value)} {oc30 kV30 dc30 pm30 cd30 ct30 : Value}
    {f31 : Addr} {od31 an31 : Option Addr} {sl31 : Array (Option Value)} {oc31 kV31 dc31 pm31 cd31 ct31 : Value}
    {f32 : Addr} {od32 an32 : Option Addr} {sl32 : Array (Option Value)} {oc32 kV32 dc32 pm32 cd32 ct32 : Value}
    {f33 : Addr} {od33 an33 : Option Addr} {sl33 : Array (Option Value)} {oc33 kV33 dc33 pm33 cd33 ct33 : Value}
    {tk_JUST : Tok}
    {tk_LEAST : Tok}
    {tk_LETTERS : Tok}
    {tk_LONGEST_NAME : Tok}
    {tk_MOST_NAMES : Tok}
    {tk_MOST_NUMBERS : Tok}
    {tk_MOST_PLACES : Tok}
    {tk_MOST_ROWS : Tok}
    {tk_MOST_WISHES : Tok}
    {ec_NoNumber : Addr}
    {ec_NoOrder : Addr}
    {ec_NoProgram : Addr}
    {ec_NoRow : Addr}
    {ec_WeighError : Addr}
    (a0 : PySem.W.nsIn K mainGlobals "is_whole" = some (some (.ref f0)))
    (l0 : K.lookup f0 = some ⟨oc0, od0, .func (PySem.W.fnOf "is_whole" "is_whole" (defArgs s_p_is_whole) (defBody s_p_is_whole) (defScope s_p_is_whole) .none kV0 dc0 pm0 an0 cd0 ct0), sl0⟩)
    (c0 : PySem.W.codeIn K cd0 "is_whole" = true) (k0 : PySem.W.keepIn K (.ref f0) = true)
    (a1 : PySem.W.nsIn K mainGlobals "is_one_of" = some (some (.ref f1)))
    (l1 : K.lookup f1 = some ⟨oc1, od1, .func (PySem.W.fnOf "is_one_of" "is_one_of" (defArgs s_p_is_one_of) (defBody s_p_is_one_of) (defScope s_p_is_one_of) .none kV1 dc1 pm1 an1 cd1 ct1), sl1⟩)
    (c1 : PySem.W.codeIn K cd1 "is_one_of" = true) (k1 : PySem.W.keepIn K (.ref f1) = true)
    (a2 : PySem.W.nsIn K mainGlobals "look_at_many" = some (some (.ref f2)))
    (l2 : K.lookup f2 = some ⟨oc2, od2, .func (PySem.W.fnOf "look_at_many" "look_at_many" (defArgs s_p_look_at_many) (defBody s_p_look_at_many) (defScope s_p_look_at_many) .none kV2 dc2 pm2 an2 cd2 ct2), sl2⟩)
    (c2 : PySem.W.codeIn K cd2 "look_at_many" = true) (k2 : PySem.W.keepIn K (.ref f2) = true)
    (a3 : PySem.W.nsIn K mainGlobals "is_line" = some (some (.ref f3)))
    (l3 : K.lookup f3 = some ⟨oc3, od3, .func (PySem.W.fnOf "is_line" "is_line" (defArgs s_p_is_line) (defBody s_p_is_line) (defScope s_p_is_line) .none kV3 dc3 pm3 an3 cd3 ct3), sl3⟩)
    (c3 : PySem.W.codeIn K cd3 "is_line" = true) (k3 : PySem.W.keepIn K (.ref f3) = true)
    (a4 : PySem.W.nsIn K mainGlobals "is_wish" = some (some (.ref f4)))
    (l4 : K.lookup f4 = some ⟨oc4, od4, .func (PySem.W.fnOf "is_wish" "is_wish" (defArgs s_p_is_wish) (defBody s_p_is_wish) (defScope s_p_is_wish) .none kV4 dc4 pm4 an4 cd4 ct4), sl4⟩)
    (c4 : PySem.W.codeIn K cd4 "is_wish" = true) (k4 : PySem.W.keepIn K (.ref f4) = true)
    (a5 : PySem.W.nsIn K mainGlobals "is_letters" = some (some (.ref f5)))
    (l5 : K.lookup f5 = some ⟨oc5, od5, .func (PySem.W.fnOf "is_letters" "is_letters" (defArgs s_p_is_letters) (defBody s_p_is_letters) (defScope s_p_is_letters) .none kV5 dc5 pm5 an5 cd5 ct5), sl5⟩)
    (c5 : PySem.W.codeIn K cd5 "is_letters" = true) (k5 : PySem.W.keepIn K (.ref f5) = true)
    (a6 : PySem.W.nsIn K mainGlobals "is_name" = some (some (.ref f6)))
    (l6 : K.lookup f6 = some ⟨oc6, od6, .func (PySem.W.fnOf "is_name" "is_name" (defArgs s_p_is_name) (defBody s_p_is_name) (defScope s_p_is_name) .none kV6 dc6 pm6 an6 cd6 ct6), sl6⟩)
    (c6 : PySem.W.codeIn K cd6 "is_name" = true) (k6 : PySem.W.keepIn K (.ref f6) = true)
    (a7 : PySem.W.nsIn K mainGlobals "look_at_names" = some (some (.ref f7)))
    (l7 : K.lookup f7 = some ⟨oc7, od7, .func (PySem.W.fnOf "look_at_names" "look_at_names" (defArgs s_p_look_at_names) (defBody s_p_look_at_names) (defScope s_p_look_at_names) .none kV7 dc7 pm7 an7 cd7 ct7), sl7⟩)
    (c7 : PySem.W.codeIn K cd7 "look_at_names" = true) (k7 : PySem.W.keepIn K (.ref f7) = true)
    (a8 : PySem.W.nsIn K mainGlobals "is_wishes" = some (some (.ref f8)))
    (l8 : K.lookup f8 = some ⟨oc8, od8, .func (PySem.W.fnOf "is_wishes" "is_wishes" (defArgs s_p_is_wishes) (defBody s_p_is_wishes) (defScope s_p_is_wishes) .none kV8 dc8 pm8 an8 cd8 ct8), sl8⟩)
    (c8 : PySem.W.codeIn K cd8 "is_wishes" = true) (k8 : PySem.W.keepIn K (.ref f8) = true)
    (a9 : PySem.W.nsIn K mainGlobals "is_row" = some (some (.ref f9)))
    (l9 : K.lookup f9 = some ⟨oc9, od9, .func (PySem.W.fnOf "is_row" "is_row" (defArgs s_p_is_row) (defBody s_p_is_row) (defScope s_p_is_row) .none kV9 dc9 pm9 an9 cd9 ct9), sl9⟩)
    (c9 : PySem.W.codeIn K cd9 "is_row" = true) (k9 : PySem.W.keepIn K (.ref f9) = true)
    (a10 : PySem.W.nsIn K mainGlobals "look_at_rows" = some (some (.ref f10)))
    (l10 : K.lookup f10 = some ⟨oc10, od10, .func (PySem.W.fnOf "look_at_rows" "look_at_rows" (defArgs s_p_look_at_rows) (defBody s_p_look_at_rows) (defScope s_p_look_at_rows) .none kV10 dc10 pm10 an10 cd10 ct10), sl10⟩)
    (c10 : PySem.W.codeIn K cd10 "look_at_rows" = true) (k10 : PySem.W.keepIn K (.ref f10) = true)
    (a11 : PySem.W.nsIn K mainGlobals "look_at" = some (some (.ref f11)))
    (l11 : K.lookup f11 = some ⟨oc11, od11, .func (PySem.W.fnOf "look_at" "look_at" (defArgs s_p_look_at) (defBody s_p_look_at) (defScope s_p_look_at) .none kV11 dc11 pm11 an11 cd11 ct11), sl11⟩)
    (c11 : PySem.W.codeIn K cd11 "look_at" = true) (k11 : PySem.W.keepIn K (.ref f11) = true)
    (a12 : PySem.W.nsIn K mainGlobals "copied_wishes" = some (some (.ref f12)))
    (l12 : K.lookup f12 = some ⟨oc12, od12, .func (PySem.W.fnOf "copied_wishes" "copied_wishes" (defArgs s_p_copied_wishes) (defBody s_p_copied_wishes) (defScope s_p_copied_wishes) .none kV12 dc12 pm12 an12 cd12 ct12), sl12⟩)
    (c12 : PySem.W.codeIn K cd12 "copied_wishes" = true) (k12 : PySem.W.keepIn K (.ref f12) = true)
    (a13 : PySem.W.nsIn K mainGlobals "look_at_order" = some (some (.ref f13)))
    (l13 : K.lookup f13 = some ⟨oc13, od13, .func (PySem.W.fnOf "look_at_order" "look_at_order" (defArgs s_p_look_at_order) (defBody s_p_look_at_order) (defScope s_p_look_at_order) .none kV13 dc13 pm13 an13 cd13 ct13), sl13⟩)
    (c13 : PySem.W.codeIn K cd13 "look_at_order" = true) (k13 : PySem.W.keepIn K (.ref f13) = true)
    (a14 : PySem.W.nsIn K mainGlobals "moved" = some (some (.ref f14)))
    (l14 : K.lookup f14 = some ⟨oc14, od14, .func (PySem.W.fnOf "moved" "moved" (defArgs s_p_moved) (defBody s_p_moved) (defScope s_p_moved) .none kV14 dc14 pm14 an14 cd14 ct14), sl14⟩)
    (c14 : PySem.W.codeIn K cd14 "moved" = true) (k14 : PySem.W.keepIn K (.ref f14) = true)
    (a15 : PySem.W.nsIn K mainGlobals "line_moved" = some (some (.ref f15)))
    (l15 : K.lookup f15 = some ⟨oc15, od15, .func (PySem.W.fnOf "line_moved" "line_moved" (defArgs s_p_line_moved) (defBody s_p_line_moved) (defScope s_p_line_moved) .none kV15 dc15 pm15 an15 cd15 ct15), sl15⟩)
    (c15 : PySem.W.codeIn K cd15 "line_moved" = true) (k15 : PySem.W.keepIn K (.ref f15) = true)
    (a16 : PySem.W.nsIn K mainGlobals "places_ordered" = some (some (.ref f16)))
    (l16 : K.lookup f16 = some ⟨oc16, od16, .func (PySem.W.fnOf "places_ordered" "places_ordered" (defArgs s_p_places_ordered) (defBody s_p_places_ordered) (defScope s_p_places_ordered) .none kV16 dc16 pm16 an16 cd16 ct16), sl16⟩)
    (c16 : PySem.W.codeIn K cd16 "places_ordered" = true) (k16 : PySem.W.keepIn K (.ref f16) = true)
    (a17 : PySem.W.nsIn K mainGlobals "numbers_ordered" = some (some (.ref f17)))
    (l17 : K.lookup f17 = some ⟨oc17, od17, .func (PySem.W.fnOf "numbers_ordered" "numbers_ordered" (defArgs s_p_numbers_ordered) (defBody s_p_numbers_ordered) (defScope s_p_numbers_ordered) .none kV17 dc17 pm17 an17 cd17 ct17), sl17⟩)
    (c17 : PySem.W.codeIn K cd17 "numbers_ordered" = true) (k17 : PySem.W.keepIn K (.ref f17) = true)
    (a18 : PySem.W.nsIn K mainGlobals "_law_pool" = some (some (.ref f18)))
    (l18 : K.lookup f18 = some ⟨oc18, od18, .func (PySem.W.fnOf "_law_pool" "_law_pool" (defArgs s_L_pool) (defBody s_L_pool) (defScope s_L_pool) .none kV18 dc18 pm18 an18 cd18 ct18), sl18⟩)
    (c18 : PySem.W.codeIn K cd18 "_law_pool" = true) (k18 : PySem.W.keepIn K (.ref f18) = true)
    (a19 : PySem.W.nsIn K mainGlobals "_law_take" = some (some (.ref f19)))
    (l19 : K.lookup f19 = some ⟨oc19, od19, .func (PySem.W.fnOf "_law_take" "_law_take" (defArgs s_L_take) (defBody s_L_take) (defScope s_L_take) .none kV19 dc19 pm19 an19 cd19 ct19), sl19⟩)
    (c19 : PySem.W.codeIn K cd19 "_law_take" = true) (k19 : PySem.W.keepIn K (.ref f19) = true)
    (a20 : PySem.W.nsIn K mainGlobals "_law_names" = some (some (.ref f20)))
    (l20 : K.lookup f20 = some ⟨oc20, od20, .func (PySem.W.fnOf "_law_names" "_law_names" (defArgs s_L_names) (defBody s_L_names) (defScope s_L_names) .none kV20 dc20 pm20 an20 cd20 ct20), sl20⟩)
    (c20 : PySem.W.codeIn K cd20 "_law_names" = true) (k20 : PySem.W.keepIn K (.ref f20) = true)
    (a21 : PySem.W.nsIn K mainGlobals "_law_factor" = some (some (.ref f21)))
    (l21 : K.lookup f21 = some ⟨oc21, od21, .func (PySem.W.fnOf "_law_factor" "_law_factor" (defArgs s_L_factor) (defBody s_L_factor) (defScope s_L_factor) .none kV21 dc21 pm21 an21 cd21 ct21), sl21⟩)
    (c21 : PySem.W.codeIn K cd21 "_law_factor" = true) (k21 : PySem.W.keepIn K (.ref f21) = true)
    (a22 : PySem.W.nsIn K mainGlobals "_law_line" = some (some (.ref f22)))
    (l22 : K.lookup f22 = some ⟨oc22, od22, .func (PySem.W.fnOf "_law_line" "_law_line" (defArgs s_L_line) (defBody s_L_line) (defScope s_L_line) .none kV22 dc22 pm22 an22 cd22 ct22), sl22⟩)
    (c22 : PySem.W.codeIn K cd22 "_law_line" = true) (k22 : PySem.W.keepIn K (.ref f22) = true)
    (a23 : PySem.W.nsIn K mainGlobals "_law_wishes" = some (some (.ref f23)))
    (l23 : K.lookup f23 = some ⟨oc23, od23, .func (PySem.W.fnOf "_law_wishes" "_law_wishes" (defArgs s_L_wishes) (defBody s_L_wishes) (defScope s_L_wishes) .none kV23 dc23 pm23 an23 cd23 ct23), sl23⟩)
    (c23 : PySem.W.codeIn K cd23 "_law_wishes" = true) (k23 : PySem.W.keepIn K (.ref f23) = true)
    (a24 : PySem.W.nsIn K mainGlobals "_law_program" = some (some (.ref f24)))
    (l24 : K.lookup f24 = some ⟨oc24, od24, .func (PySem.W.fnOf "_law_program" "_law_program" (defArgs s_L_program) (defBody s_L_program) (defScope s_L_program) .none kV24 dc24 pm24 an24 cd24 ct24), sl24⟩)
    (c24 : PySem.W.codeIn K cd24 "_law_program" = true) (k24 : PySem.W.keepIn K (.ref f24) = true)
    (a25 : PySem.W.nsIn K mainGlobals "_law_order" = some (some (.ref f25)))
    (l25 : K.lookup f25 = some ⟨oc25, od25, .func (PySem.W.fnOf "_law_order" "_law_order" (defArgs s_L_order) (defBody s_L_order) (defScope s_L_order) .none kV25 dc25 pm25 an25 cd25 ct25), sl25⟩)
    (c25 : PySem.W.codeIn K cd25 "_law_order" = true) (k25 : PySem.W.keepIn K (.ref f25) = true)
    (a26 : PySem.W.nsIn K mainGlobals "_law_moved" = some (some (.ref f26)))
    (l26 : K.lookup f26 = some ⟨oc26, od26, .func (PySem.W.fnOf "_law_moved" "_law_moved" (defArgs s_L_moved) (defBody s_L_moved) (defScope s_L_moved) .none kV26 dc26 pm26 an26 cd26 ct26), sl26⟩)
    (c26 : PySem.W.codeIn K cd26 "_law_moved" = true) (k26 : PySem.W.keepIn K (.ref f26) = true)
    (a27 : PySem.W.nsIn K mainGlobals "_law_by_places" = some (some (.ref f27)))
    (l27 : K.lookup f27 = some ⟨oc27, od27, .func (PySem.W.fnOf "_law_by_places" "_law_by_places" (defArgs s_L_by_places) (defBody s_L_by_places) (defScope s_L_by_places) .none kV27 dc27 pm27 an27 cd27 ct27), sl27⟩)
    (c27 : PySem.W.codeIn K cd27 "_law_by_places" = true) (k27 : PySem.W.keepIn K (.ref f27) = true)
    (a28 : PySem.W.nsIn K mainGlobals "_law_by_numbers" = some (some (.ref f28)))
    (l28 : K.lookup f28 = some ⟨oc28, od28, .func (PySem.W.fnOf "_law_by_numbers" "_law_by_numbers" (defArgs s_L_by_numbers) (defBody s_L_by_numbers) (defScope s_L_by_numbers) .none kV28 dc28 pm28 an28 cd28 ct28), sl28⟩)
    (c28 : PySem.W.codeIn K cd28 "_law_by_numbers" = true) (k28 : PySem.W.keepIn K (.ref f28) = true)
    (a29 : PySem.W.nsIn K mainGlobals "_law_refused" = some (some (.ref f29)))
    (l29 : K.lookup f29 = some ⟨oc29, od29, .func (PySem.W.fnOf "_law_refused" "_law_refused" (defArgs s_L_refused) (defBody s_L_refused) (defScope s_L_refused) .none kV29 dc29 pm29 an29 cd29 ct29), sl29⟩)
    (c29 : PySem.W.codeIn K cd29 "_law_refused" = true) (k29 : PySem.W.keepIn K (.ref f29) = true)
    (a30 : PySem.W.nsIn K mainGlobals "_law_no_order" = some (some (.ref f30)))
    (l30 : K.lookup f30 = some ⟨oc30, od30, .func (PySem.W.fnOf "_law_no_order" "_law_no_order" (defArgs s_L_no_order) (defBody s_L_no_order) (defScope s_L_no_order) .none kV30 dc30 pm30 an30 cd30 ct30), sl30⟩)
    (c30 : PySem.W.codeIn K cd30 "_law_no_order" = true) (k30 : PySem.W.keepIn K (.ref f30) = true)
    (a31 : PySem.W.nsIn K mainGlobals "_law_apart" = some (some (.ref f31)))
    (l31 : K.lookup f31 = some ⟨oc31, od31, .func (PySem.W.fnOf "_law_apart" "_law_apart" (defArgs s_L_apart) (defBody s_L_apart) (defScope s_L_apart) .none kV31 dc31 pm31 an31 cd31 ct31), sl31⟩)
    (c31 : PySem.W.codeIn K cd31 "_law_apart" = true) (k31 : PySem.W.keepIn K (.ref f31) = true)
    (a32 : PySem.W.nsIn K mainGlobals "_law_right" = some (some (.ref f32)))
    (l32 : K.lookup f32 = some ⟨oc32, od32, .func (PySem.W.fnOf "_law_right" "_law_right" (defArgs s_L_right) (defBody s_L_right) (defScope s_L_right) .none kV32 dc32 pm32 an32 cd32 ct32), sl32⟩)
    (c32 : PySem.W.codeIn K cd32 "_law_right" = true) (k32 : PySem.W.keepIn K (.ref f32) = true)
    (a33 : PySem.W.nsIn K mainGlobals "law" = some (some (.ref f33)))
    (l33 : K.lookup f33 = some ⟨oc33, od33, .func (PySem.W.fnOf "law" "law" (defArgs s_L_law) (defBody s_L_law) (defScope s_L_law) .none kV33 dc33 pm33 an33 cd33 ct33), sl33⟩)
    (c33 : PySem.W.codeIn K cd33 "law" = true) (k33 : PySem.W.keepIn K (.ref f33) = true)
    (z_all : PySem.W.nsIn K mainGlobals "all" = some none)
    (z_bool : PySem.W.nsIn K mainGlobals "bool" = some none)
    (z_enumerate : PySem.W.nsIn K mainGlobals "enumerate" = some none)
    (z_int : PySem.W.nsIn K mainGlobals "int" = some none)
    (z_isinstance : PySem.W.nsIn K mainGlobals "isinstance" = some none)
    (z_len : PySem.W.nsIn K mainGlobals "len" = some none)
    (z_list : PySem.W.nsIn K mainGlobals "list" = some none)
    (z_max : PySem.W.nsIn K mainGlobals "max" = some none)
    (z_min : PySem.W.nsIn K mainGlobals "min" = some none)
    (z_range : PySem.W.nsIn K mainGlobals "range" = some none)
    (z_repr : PySem.W.nsIn K mainGlobals "repr" = some none)
    (z_sorted : PySem.W.nsIn K mainGlobals "sorted" = some none)
    (z_str : PySem.W.nsIn K mainGlobals "str" = some none)
    (z_sum : PySem.W.nsIn K mainGlobals "sum" = some none)
    (z_tuple : PySem.W.nsIn K mainGlobals "tuple" = some none)
    (z_zip : PySem.W.nsIn K mainGlobals "zip" = some none)
    (x_JUST : PySem.W.nsIn K mainGlobals "JUST" = some (some (.str "just" tk_JUST)))
    (x_LEAST : PySem.W.nsIn K mainGlobals "LEAST" = some (some (.str "least" tk_LEAST)))
    (x_LETTERS : PySem.W.nsIn K mainGlobals "LETTERS" = some (some (.str "abcdefghijklmnopqrstuvwxyz" tk_LETTERS)))
    (x_LONGEST_NAME : PySem.W.nsIn K mainGlobals "LONGEST_NAME" = some (some (.int (6) tk_LONGEST_NAME)))
    (x_MOST_NAMES : PySem.W.nsIn K mainGlobals "MOST_NAMES" = some (some (.int (3) tk_MOST_NAMES)))
    (x_MOST_NUMBERS : PySem.W.nsIn K mainGlobals "MOST_NUMBERS" = some (some (.int (8) tk_MOST_NUMBERS)))
    (x_MOST_PLACES : PySem.W.nsIn K mainGlobals "MOST_PLACES" = some (some (.int (6) tk_MOST_PLACES)))
    (x_MOST_ROWS : PySem.W.nsIn K mainGlobals "MOST_ROWS" = some (some (.int (10) tk_MOST_ROWS)))
    (x_MOST_WISHES : PySem.W.nsIn K mainGlobals "MOST_WISHES" = some (some (.int (12) tk_MOST_WISHES)))
    (hx_NoNumber : PySem.W.nsIn K mainGlobals "NoNumber" = some (some (.ref ec_NoNumber)))
    (hk_NoNumber : PySem.W.keepIn K (.ref ec_NoNumber) = true)
    (hs_NoNumber : PySem.W.subIn K (.ref ec_NoNumber) (.type "BaseException") = some true)
    (ht_NoNumber : PySem.W.typeIn K (.ref ec_NoNumber) = some (.type "type"))
    (y0_NoNumber : PySem.W.findIn K (.ref ec_NoNumber) "__getattribute__" = some (some (.builtin "BaseException.__getattribute__")))
    (y1_NoNumber : PySem.W.findIn K (.ref ec_NoNumber) "__getattr__" = some none)
    (y2_NoNumber : PySem.W.hasDictIn K ec_NoNumber = true)
    (y3_NoNumber : PySem.W.findIn K (.ref ec_NoNumber) "__class__" = some (some (.builtin "object.__class__")))
    (y4_NoNumber : PySem.W.specialIn K (.builtin "object.__class__") "__get__" = some (some (.builtin "getset_descriptor.__get__")))
    (y5_NoNumber : PySem.W.takesIn K (.builtin "object.__class__") = some true)
    (y6_NoNumber : PySem.W.mroIn K ec_NoNumber (.type "object") = some true)
    (hx_NoOrder : PySem.W.nsIn K mainGlobals "NoOrder" = some (some (.ref ec_NoOrder)))
    (hk_NoOrder : PySem.W.keepIn K (.ref ec_NoOrder) = true)
    (hs_NoOrder : PySem.W.subIn K (.ref ec_NoOrder) (.type "BaseException") = some true)
    (ht_NoOrder : PySem.W.typeIn K (.ref ec_NoOrder) = some (.type "type"))
    (y0_NoOrder : PySem.W.findIn K (.ref ec_NoOrder) "__getattribute__" = some (some (.builtin "BaseException.__getattribute__")))
    (y1_NoOrder : PySem.W.findIn K (.ref ec_NoOrder) "__getattr__" = some none)
    (y2_NoOrder : PySem.W.hasDictIn K ec_NoOrder = true)
    (y3_NoOrder : PySem.W.findIn K (.ref ec_NoOrder) "__class__" = some (some (.builtin "object.__class__")))
    (y4_NoOrder : PySem.W.specialIn K (.builtin "object.__class__") "__get__" = some (some (.builtin "getset_descriptor.__get__")))
    (y5_NoOrder : PySem.W.takesIn K (.builtin "object.__class__") = some true)
    (y6_NoOrder : PySem.W.mroIn K ec_NoOrder (.type "object") = some true)
    (hq_NoOrder : PySem.W.excIn K ec_NoOrder bm_ValueError "ValueError.__new__" = true)
    (hx_NoProgram : PySem.W.nsIn K mainGlobals "NoProgram" = some (some (.ref ec_NoProgram)))
    (hk_NoProgram : PySem.W.keepIn K (.ref ec_NoProgram) = true)
    (hs_NoProgram : PySem.W.subIn K (.ref ec_NoProgram) (.type "BaseException") = some true)
    (ht_NoProgram : PySem.W.typeIn K (.ref ec_NoProgram) = some (.type "type"))
    (y0_NoProgram : PySem.W.findIn K (.ref ec_NoProgram) "__getattribute__" = some (some (.builtin "BaseException.__getattribute__")))
    (y1_NoProgram : PySem.W.findIn K (.ref ec_NoProgram) "__getattr__" = some none)
    (y2_NoProgram : PySem.W.hasDictIn K ec_NoProgram = true)
    (y3_NoProgram : PySem.W.findIn K (.ref ec_NoProgram) "__class__" = some (some (.builtin "object.__class__")))
    (y4_NoProgram : PySem.W.specialIn K (.builtin "object.__class__") "__get__" = some (some (.builtin "getset_descriptor.__get__")))
    (y5_NoProgram : PySem.W.takesIn K (.builtin "object.__class__") = some true)
    (y6_NoProgram : PySem.W.mroIn K ec_NoProgram (.type "object") = some true)
    (hx_NoRow : PySem.W.nsIn K mainGlobals "NoRow" = some (some (.ref ec_NoRow)))
    (hk_NoRow : PySem.W.keepIn K (.ref ec_NoRow) = true)
    (hs_NoRow : PySem.W.subIn K (.ref ec_NoRow) (.type "BaseException") = some true)
    (ht_NoRow : PySem.W.typeIn K (.ref ec_NoRow) = some (.type "type"))
    (y0_NoRow : PySem.W.findIn K (.ref ec_NoRow) "__getattribute__" = some (some (.builtin "BaseException.__getattribute__")))
    (y1_NoRow : PySem.W.findIn K (.ref ec_NoRow) "__getattr__" = some none)
    (y2_NoRow : PySem.W.hasDictIn K ec_NoRow = true)
    (y3_NoRow : PySem.W.findIn K (.ref ec_NoRow) "__class__" = some (some (.builtin "object.__class__")))
    (y4_NoRow : PySem.W.specialIn K (.builtin "object.__class__") "__get__" = some (some (.builtin "getset_descriptor.__get__")))
    (y5_NoRow : PySem.W.takesIn K (.builtin "object.__class__") = some true)
    (y6_NoRow : PySem.W.mroIn K ec_NoRow (.type "object") = some true)
    (hx_WeighError : PySem.W.nsIn K mainGlobals "WeighError" = some (some (.ref ec_WeighError)))
    (hk_WeighError : PySem.W.keepIn K (.ref ec_WeighError) = true)
    (hs_WeighError : PySem.W.subIn K (.ref ec_WeighError) (.type "BaseException") = some true)
    (ht_WeighError : PySem.W.typeIn K (.ref ec_WeighError) = some (.type "type"))
    (y0_WeighError : PySem.W.findIn K (.ref ec_WeighError) "__getattribute__" = some (some (.builtin "BaseException.__getattribute__")))
    (y1_WeighError : PySem.W.findIn K (.ref ec_WeighError) "__getattr__" = some none)
    (y2_WeighError : PySem.W.hasDictIn K ec_WeighError = true)
    (y3_WeighError : PySem.W.findIn K (.ref ec_WeighError) "__class__" = some (some (.builtin "object.__class__")))
    (y4_WeighError : PySem.W.specialIn K (.builtin "object.__class__") "__get__" = some (some (.builtin "getset_descriptor.__get__")))
    (y5_WeighError : PySem.W.takesIn K (.builtin "object.__class__") = some true)
    (y6_WeighError : PySem.W.mroIn K ec_WeighError (.type "object") = some true)
    (ms_NoOrder_WeighError : PySem.W.subIn K (.ref ec_NoOrder) (.ref ec_WeighError) = some true)
    (mk_NoNumber : kitAll K (.ref ec_NoNumber) [(ec_NoOrder, false)] = true)
    (mk_NoOrder : kitAll K (.ref ec_NoOrder) [(ec_NoOrder, true)] = true)
    (mk_NoProgram : kitAll K (.ref ec_NoProgram) [(ec_NoOrder, false)] = true)
    (mk_NoRow : kitAll K (.ref ec_NoRow) [(ec_NoOrder, false)] = true)
    : ∃ fd : FuncData, (∀ (s : Shared) (v : Value), BindsTo s fd ⟨[v], []⟩ [("_law_script", v)]) ∧
      ∀ base : Heap, K.In base → base.Ns mainGlobals mg → FnG l.prog w K mg base 11 fa fd ["_law_script"] (spD K sp_L_law) := by
  have e := hfa.symm.trans (PySem.W.mg_of X G a33)
  cases e
  have F0 := fun_mk (st := s_p_is_whole) l0 c0 k0
  have F1 := fun_mk (st := s_p_is_one_of) l1 c1 k1
  have F2 := fun_mk (st := s_p_look_at_many) l2 c2 k2
  have F3 := fun_mk (st := s_p_is_line) l3 c3 k3
  have F4 := fun_mk (st := s_p_is_wish) l4 c4 k4
  have F5 := fun_mk (st := s_p_is_letters) l5 c5 k5
  have F6 := fun_mk (st := s_p_is_name) l6 c6 k6
  have F7 := fun_mk (st := s_p_look_at_names) l7 c7 k7
  have F8 := fun_mk (st := s_p_is_wishes) l8 c8 k8
  have F9 := fun_mk (st := s_p_is_row) l9 c9 k9
  have F10 := fun_mk (st := s_p_look_at_rows) l10 c10 k10
  have F11 := fun_mk (st := s_p_look_at) l11 c11 k11
  have F12 := fun_mk (st := s_p_copied_wishes) l12 c12 k12
  have F13 := fun_mk (st := s_p_look_at_order) l13 c13 k13
  have F14 := fun_mk (st := s_p_moved) l14 c14 k14
  have F15 := fun_mk (st := s_p_line_moved) l15 c15 k15
  have F16 := fun_mk (st := s_p_places_ordered) l16 c16 k16
  have F17 := fun_mk (st := s_p_numbers_ordered) l17 c17 k17
  have F18 := fun_mk (st := s_L_pool) l18 c18 k18
  have F19 := fun_mk (st := s_L_take) l19 c19 k19
  have F20 := fun_mk (st := s_L_names) l20 c20 k20
  have F21 := fun_mk (st := s_L_factor) l21 c21 k21
  have F22 := fun_mk (st := s_L_line) l22 c22 k22
  have F23 := fun_mk (st := s_L_wishes) l23 c23 k23
  have F24 := fun_mk (st := s_L_program) l24 c24 k24
  have F25 := fun_mk (st := s_L_order) l25 c25 k25
  have F26 := fun_mk (st := s_L_moved) l26 c26 k26
  have F27 := fun_mk (st := s_L_by_places) l27 c27 k27
  have F28 := fun_mk (st := s_L_by_numbers) l28 c28 k28
  have F29 := fun_mk (st := s_L_refused) l29 c29 k29
  have F30 := fun_mk (st := s_L_no_order) l30 c30 k30
  have F31 := fun_mk (st := s_L_apart) l31 c31 k31
  have F32 := fun_mk (st := s_L_right) l32 c32 k32
  have F33 := fun_mk (st := s_L_law) l33 c33 k33
  have xb_NoNumber : ExB K "NoNumber" ec_NoNumber := ⟨hx_NoNumber, hk_NoNumber, hs_NoNumber, ht_NoNumber, ⟨y0_NoNumber, y1_NoNumber, hs_NoNumber, y2_NoNumber, y3_NoNumber, y4_NoNumber, y5_NoNumber, y6_NoNumber⟩⟩
  have xb_NoOrder : ExB K "NoOrder" ec_NoOrder := ⟨hx_NoOrder, hk_NoOrder, hs_NoOrder, ht_NoOrder, ⟨y0_NoOrder, y1_NoOrder, hs_NoOrder, y2_NoOrder, y3_NoOrder, y4_NoOrder, y5_NoOrder, y6_NoOrder⟩⟩
  have xb_NoProgram : ExB K "NoProgram" ec_NoProgram := ⟨hx_NoProgram, hk_NoProgram, hs_NoProgram, ht_NoProgram, ⟨y0_NoProgram, y1_NoProgram, hs_NoProgram, y2_NoProgram, y3_NoProgram, y4_NoProgram, y5_NoProgram, y6_NoProgram⟩⟩
  have xb_NoRow : ExB K "NoRow" ec_NoRow := ⟨hx_NoRow, hk_NoRow, hs_NoRow, ht_NoRow, ⟨y0_NoRow, y1_NoRow, hs_NoRow, y2_NoRow, y3_NoRow, y4_NoRow, y5_NoRow, y6_NoRow⟩⟩
  have xb_WeighError : ExB K "WeighError" ec_WeighError := ⟨hx_WeighError, hk_WeighError, hs_WeighError, ht_WeighError, ⟨y0_WeighError, y1_WeighError, hs_WeighError, y2_WeighError, y3_WeighError, y4_WeighError, y5_WeighError, y6_WeighError⟩⟩
  let T : Tx l.prog K mg := {
    n_all := PySem.W.mg_none_of X G z_all
    n_bool := PySem.W.mg_none_of X G z_bool
    n_enumerate := PySem.W.mg_none_of X G z_enumerate
    n_int := PySem.W.mg_none_of X G z_int
    n_isinstance := PySem.W.mg_none_of X G z_isinstance
    n_len := PySem.W.mg_none_of X G z_len
    n_list := PySem.W.mg_none_of X G z_list
    n_max := PySem.W.mg_none_of X G z_max
    n_min := PySem.W.mg_none_of X G z_min
    n_range := PySem.W.mg_none_of X G z_range
    n_repr := PySem.W.mg_none_of X G z_repr
    n_sorted := PySem.W.mg_none_of X G z_sorted
    n_str := PySem.W.mg_none_of X G z_str
    n_sum := PySem.W.mg_none_of X G z_sum
    n_tuple := PySem.W.mg_none_of X G z_tuple
    n_zip := PySem.W.mg_none_of X G z_zip
    u_JUST := tk_JUST
    c_JUST := PySem.W.mg_of X G x_JUST
    u_LEAST := tk_LEAST
    c_LEAST := PySem.W.mg_of X G x_LEAST
    u_LETTERS := tk_LETTERS
    c_LETTERS := PySem.W.mg_of X G x_LETTERS
    u_LONGEST_NAME := tk_LONGEST_NAME
    c_LONGEST_NAME := PySem.W.mg_of X G x_LONGEST_NAME
    u_MOST_NAMES := tk_MOST_NAMES
    c_MOST_NAMES := PySem.W.mg_of X G x_MOST_NAMES
    u_MOST_NUMBERS := tk_MOST_NUMBERS
    c_MOST_NUMBERS := PySem.W.mg_of X G x_MOST_NUMBERS
    u_MOST_PLACES := tk_MOST_PLACES
    c_MOST_PLACES := PySem.W.mg_of X G x_MOST_PLACES
    u_MOST_ROWS := tk_MOST_ROWS
    c_MOST_ROWS := PySem.W.mg_of X G x_MOST_ROWS
    u_MOST_WISHES := tk_MOST_WISHES
    c_MOST_WISHES := PySem.W.mg_of X G x_MOST_WISHES
    e_NoNumber := ec_NoNumber
    gx_NoNumber := PySem.W.mg_of X G hx_NoNumber
    x_NoNumber := xb_NoNumber
    e_NoOrder := ec_NoOrder
    gx_NoOrder := PySem.W.mg_of X G hx_NoOrder
    x_NoOrder := xb_NoOrder
    q_NoOrder := ⟨hx_NoOrder, hq_NoOrder, hk_NoOrder, hs_NoOrder, ht_NoOrder, ⟨y0_NoOrder, y1_NoOrder, hs_NoOrder, y2_NoOrder, y3_NoOrder, y4_NoOrder, y5_NoOrder, y6_NoOrder⟩⟩
    e_NoProgram := ec_NoProgram
    gx_NoProgram := PySem.W.mg_of X G hx_NoProgram
    x_NoProgram := xb_NoProgram
    e_NoRow := ec_NoRow
    gx_NoRow := PySem.W.mg_of X G hx_NoRow
    x_NoRow := xb_NoRow
    e_WeighError := ec_WeighError
    gx_WeighError := PySem.W.mg_of X G hx_WeighError
    x_WeighError := xb_WeighError
    m_NoOrder_WeighError := ms_NoOrder_WeighError
    kt_NoNumber := mlK_c xb_NoOrder (mlK_n) mk_NoNumber
    kt_NoOrder := mlK_c xb_NoOrder (mlK_n) mk_NoOrder
    kt_NoProgram := mlK_c xb_NoOrder (mlK_n) mk_NoProgram
    kt_NoRow := mlK_c xb_NoOrder (mlK_n) mk_NoRow
    f_p_is_whole := f0
    d_p_is_whole := _
    F_p_is_whole := F0
    g_p_is_whole := PySem.W.mg_of X G a0
    f_p_is_one_of := f1
    d_p_is_one_of := _
    F_p_is_one_of := F1
    g_p_is_one_of := PySem.W.mg_of X G a1
    f_p_look_at_many := f2
    d_p_look_at_many := _
    F_p_look_at_many := F2
    g_p_look_at_many := PySem.W.mg_of X G a2
    f_p_is_line := f3
    d_p_is_line := _
    F_p_is_line := F3
    g_p_is_line := PySem.W.mg_of X G a3
    f_p_is_wish := f4
    d_p_is_wish := _
    F_p_is_wish := F4
    g_p_is_wish := PySem.W.mg_of X G a4
    f_p_is_letters := f5
    d_p_is_letters := _
    F_p_is_letters := F5
    g_p_is_letters := PySem.W.mg_of X G a5
    f_p_is_name := f6
    d_p_is_name := _
    F_p_is_name := F6
    g_p_is_name := PySem.W.mg_of X G a6
    f_p_look_at_names := f7
    d_p_look_at_names := _
    F_p_look_at_names := F7
    g_p_look_at_names := PySem.W.mg_of X G a7
    f_p_is_wishes := f8
    d_p_is_wishes := _
    F_p_is_wishes := F8
    g_p_is_wishes := PySem.W.mg_of X G a8
    f_p_is_row := f9
    d_p_is_row := _
    F_p_is_row := F9
    g_p_is_row := PySem.W.mg_of X G a9
    f_p_look_at_rows := f10
    d_p_look_at_rows := _
    F_p_look_at_rows := F10
    g_p_look_at_rows := PySem.W.mg_of X G a10
    f_p_look_at := f11
    d_p_look_at := _
    F_p_look_at := F11
    g_p_look_at := PySem.W.mg_of X G a11
    f_p_copied_wishes := f12
    d_p_copied_wishes := _
    F_p_copied_wishes := F12
    g_p_copied_wishes := PySem.W.mg_of X G a12
    f_p_look_at_order := f13
    d_p_look_at_order := _
    F_p_look_at_order := F13
    g_p_look_at_order := PySem.W.mg_of X G a13
    f_p_moved := f14
    d_p_moved := _
    F_p_moved := F14
    g_p_moved := PySem.W.mg_of X G a14
    f_p_line_moved := f15
    d_p_line_moved := _
    F_p_line_moved := F15
    g_p_line_moved := PySem.W.mg_of X G a15
    f_p_places_ordered := f16
    d_p_places_ordered := _
    F_p_places_ordered := F16
    g_p_places_ordered := PySem.W.mg_of X G a16
    f_p_numbers_ordered := f17
    d_p_numbers_ordered := _
    F_p_numbers_ordered := F17
    g_p_numbers_ordered := PySem.W.mg_of X G a17
    f_L_pool := f18
    d_L_pool := _
    F_L_pool := F18
    g_L_pool := PySem.W.mg_of X G a18
    f_L_take := f19
    d_L_take := _
    F_L_take := F19
    g_L_take := PySem.W.mg_of X G a19
    f_L_names := f20
    d_L_names := _
    F_L_names := F20
    g_L_names := PySem.W.mg_of X G a20
    f_L_factor := f21
    d_L_factor := _
    F_L_factor := F21
    g_L_factor := PySem.W.mg_of X G a21
    f_L_line := f22
    d_L_line := _
    F_L_line := F22
    g_L_line := PySem.W.mg_of X G a22
    f_L_wishes := f23
    d_L_wishes := _
    F_L_wishes := F23
    g_L_wishes := PySem.W.mg_of X G a23
    f_L_program := f24
    d_L_program := _
    F_L_program := F24
    g_L_program := PySem.W.mg_of X G a24
    f_L_order := f25
    d_L_order := _
    F_L_order := F25
    g_L_order := PySem.W.mg_of X G a25
    f_L_moved := f26
    d_L_moved := _
    F_L_moved := F26
    g_L_moved := PySem.W.mg_of X G a26
    f_L_by_places := f27
    d_L_by_places := _
    F_L_by_places := F27
    g_L_by_places := PySem.W.mg_of X G a27
    f_L_by_numbers := f28
    d_L_by_numbers := _
    F_L_by_numbers := F28
    g_L_by_numbers := PySem.W.mg_of X G a28
    f_L_refused := f29
    d_L_refused := _
    F_L_refused := F29
    g_L_refused := PySem.W.mg_of X G a29
    f_L_no_order := f30
    d_L_no_order := _
    F_L_no_order := F30
    g_L_no_order := PySem.W.mg_of X G a30
    f_L_apart := f31
    d_L_apart := _
    F_L_apart := F31
    g_L_apart := PySem.W.mg_of X G a31
    f_L_right := f32
    d_L_right := _
    F_L_right := F32
    g_L_right := PySem.W.mg_of X G a32
    f_L_law := fa
    d_L_law := _
    F_L_law := F33
    g_L_law := PySem.W.mg_of X G a33
    b_L_apart_1 := bnd_of F31 fun _ _ _ _ _ _ us ws h1 h2 => match us, ws, h1, h2 with | [_], [], _, _ => rfl
    b_L_by_numbers_2 := bnd_of F28 fun _ _ _ _ _ _ us ws h1 h2 => match us, ws, h1, h2 with | [_, _], [], _, _ => rfl
    b_L_by_places_2 := bnd_of F27 fun _ _ _ _ _ _ us ws h1 h2 => match us, ws, h1, h2 with | [_, _], [], _, _ => rfl
    b_L_factor_1 := bnd_of F21 fun _ _ _ _ _ _ us ws h1 h2 => match us, ws, h1, h2 with | [_], [], _, _ => rfl
    b_L_line_2 := bnd_of F22 fun _ _ _ _ _ _ us ws h1 h2 => match us, ws, h1, h2 with | [_, _], [], _, _ => rfl
    b_L_moved_2 := bnd_of F26 fun _ _ _ _ _ _ us ws h1 h2 => match us, ws, h1, h2 with | [_, _], [], _, _ => rfl
    b_L_names_3 := bnd_of F20 fun _ _ _ _ _ _ us ws h1 h2 => match us, ws, h1, h2 with | [_, _, _], [], _, _ => rfl
    b_L_no_order_2 := bnd_of F30 fun _ _ _ _ _ _ us ws h1 h2 => match us, ws, h1, h2 with | [_, _], [], _, _ => rfl
    b_L_order_2 := bnd_of F25 fun _ _ _ _ _ _ us ws h1 h2 => match us, ws, h1, h2 with | [_, _], [], _, _ => rfl
    b_L_pool_2 := bnd_of F18 fun _ _ _ _ _ _ us ws h1 h2 => match us, ws, h1, h2 with | [_, _], [], _, _ => rfl
    b_L_program_3 := bnd_of F24 fun _ _ _ _ _ _ us ws h1 h2 => match us, ws, h1, h2 with | [_, _, _], [], _, _ => rfl
    b_L_refused_3 := bnd_of F29 fun _ _ _ _ _ _ us ws h1 h2 => match us, ws, h1, h2 with | [_, _, _], [], _, _ => rfl
    b_L_right_3 := bnd_of F32 fun _ _ _ _ _ _ us ws h1 h2 => match us, ws, h1, h2 with | [_, _, _], [], _, _ => rfl
    b_L_take_2 := bnd_of F19 fun _ _ _ _ _ _ us ws h1 h2 => match us, ws, h1, h2 with | [_, _], [], _, _ => rfl
    b_L_wishes_3 := bnd_of F23 fun _ _ _ _ _ _ us ws h1 h2 => match us, ws, h1, h2 with | [_, _, _], [], _, _ => rfl
    b_p_copied_wishes_1 := bnd_of F12 fun _ _ _ _ _ _ us ws h1 h2 => match us, ws, h1, h2 with | [_], [], _, _ => rfl
    b_p_is_letters_2 := bnd_of F5 fun _ _ _ _ _ _ us ws h1 h2 => match us, ws, h1, h2 with | [_, _], [], _, _ => rfl
    b_p_is_line_2 := bnd_of F3 fun _ _ _ _ _ _ us ws h1 h2 => match us, ws, h1, h2 with | [_, _], [], _, _ => rfl
    b_p_is_name_1 := bnd_of F6 fun _ _ _ _ _ _ us ws h1 h2 => match us, ws, h1, h2 with | [_], [], _, _ => rfl
    b_p_is_one_of_2 := bnd_of F1 fun _ _ _ _ _ _ us ws h1 h2 => match us, ws, h1, h2 with | [_, _], [], _, _ => rfl
    b_p_is_row_3 := bnd_of F9 fun _ _ _ _ _ _ us ws h1 h2 => match us, ws, h1, h2 with | [_, _, _], [], _, _ => rfl
    b_p_is_whole_1 := bnd_of F0 fun _ _ _ _ _ _ us ws h1 h2 => match us, ws, h1, h2 with | [_], [], _, _ => rfl
    b_p_is_wish_2 := bnd_of F4 fun _ _ _ _ _ _ us ws h1 h2 => match us, ws, h1, h2 with | [_, _], [], _, _ => rfl
    b_p_is_wishes_2 := bnd_of F8 fun _ _ _ _ _ _ us ws h1 h2 => match us, ws, h1, h2 with | [_, _], [], _, _ => rfl
    b_p_line_moved_2 := bnd_of F15 fun _ _ _ _ _ _ us ws h1 h2 => match us, ws, h1, h2 with | [_, _], [], _, _ => rfl
    b_p_look_at_1 := bnd_of F11 fun _ _ _ _ _ _ us ws h1 h2 => match us, ws, h1, h2 with | [_], [], _, _ => rfl
    b_p_look_at_many_1 := bnd_of F2 fun _ _ _ _ _ _ us ws h1 h2 => match us, ws, h1, h2 with | [_], [], _, _ => rfl
    b_p_look_at_names_3 := bnd_of F7 fun _ _ _ _ _ _ us ws h1 h2 => match us, ws, h1, h2 with | [_, _, _], [], _, _ => rfl
    b_p_look_at_order_2 := bnd_of F13 fun _ _ _ _ _ _ us ws h1 h2 => match us, ws, h1, h2 with | [_, _], [], _, _ => rfl
    b_p_look_at_rows_3 := bnd_of F10 fun _ _ _ _ _ _ us ws h1 h2 => match us, ws, h1, h2 with | [_, _, _], [], _, _ => rfl
    b_p_moved_2 := bnd_of F14 fun _ _ _ _ _ _ us ws h1 h2 => match us, ws, h1, h2 with | [_, _], [], _, _ => rfl
    b_p_numbers_ordered_0_order_program := bnd_of F17 fun _ _ _ _ _ _ us ws h1 h2 => match us, ws, h1, h2 with | [], [_, _], _, _ => rfl
    b_p_numbers_ordered_2 := bnd_of F17 fun _ _ _ _ _ _ us ws h1 h2 => match us, ws, h1, h2 with | [_, _], [], _, _ => rfl
    b_p_places_ordered_0_order_program := bnd_of F16 fun _ _ _ _ _ _ us ws h1 h2 => match us, ws, h1, h2 with | [], [_, _], _, _ => rfl
    b_p_places_ordered_2 := bnd_of F16 fun _ _ _ _ _ _ us ws h1 h2 => match us, ws, h1, h2 with | [_, _], [], _, _ => rfl }
  exact ⟨_, fun s v => .of_eq rfl, fun base _ _ => ok_L_law (base := base) T⟩
end Pf
open PySem PySem.W PyProof.Rows
set_option maxHeartbeats 0 in
theorem PySem.Challenge.cw_downweigh_k24_programs_in_order_holds : PySem.Challenge.rw_downweigh_k24_programs_in_order.Holds := by
  w_on; o_law; k_head; (case hw => w_witness2)
  k_fill
  refine DL.walkG (l := PySem.Challenge.rw_downweigh_k24_programs_in_order) (n := 63) (k := 11) (x := "_law_script") (fs := Pf.sp_L_law) rfl (by decide) rfl ⟨rfl, by decide, by decide⟩ (by rfl) (fun _ => by kernel_rfl) (fun w h Y => PySem.W.kIn_of Y) ?F (fun ns _ => ⟨ns, rfl, (fun _ h => by cases h), fun _ => rfl⟩)
  case F =>
    intro w mg fa h KX G hmg
    refine' Pf.all_mk KX G hmg ?a0 ?l0 ?c0 ?k0 ?a1 ?l1 ?c1 ?k1 ?a2 ?l2 ?c2 ?k2 ?a3 ?l3 ?c3 ?k3 ?a4 ?l4 ?c4 ?k4 ?a5 ?l5 ?c5 ?k5 ?a6 ?l6 ?c6 ?k6 ?a7 ?l7 ?c7 ?k7 ?a8 ?l8 ?c8 ?k8 ?a9 ?l9 ?c9 ?k9 ?a10 ?l10 ?c10 ?k10 ?a11 ?l11 ?c11 ?k11 ?a12 ?l12 ?c12 ?k12 ?a13 ?l13 ?c13 ?k13 ?a14 ?l14 ?c14 ?k14 ?a15 ?l15 ?c15 ?k15 ?a16 ?l16 ?c16 ?k16 ?a17 ?l17 ?c17 ?k17 ?a18 ?l18 ?c18 ?k18 ?a19 ?l19 ?c19 ?k19 ?a20 ?l20 ?c20 ?k20 ?a21 ?l21 ?c21 ?k21 ?a22 ?l22 ?c22 ?k22 ?a23 ?l23 ?c23 ?k23 ?a24 ?l24 ?c24 ?k24 ?a25 ?l25 ?c25 ?k25 ?a26 ?l26 ?c26 ?k26 ?a27 ?l27 ?c27 ?k27 ?a28 ?l28 ?c28 ?k28 ?a29 ?l29 ?c29 ?k29 ?a30 ?l30 ?c30 ?k30 ?a31 ?l31 ?c31 ?k31 ?a32 ?l32 ?c32 ?k32 ?a33 ?l33 ?c33 ?k33 ?z_all ?z_bool ?z_enumerate ?z_int ?z_isinstance ?z_len ?z_list ?z_max ?z_min ?z_range ?z_repr ?z_sorted ?z_str ?z_sum ?z_tuple ?z_zip ?x_JUST ?x_LEAST ?x_LETTERS ?x_LONGEST_NAME ?x_MOST_NAMES ?x_MOST_NUMBERS ?x_MOST_PLACES ?x_MOST_ROWS ?x_MOST_WISHES ?hx_NoNumber ?hk_NoNumber ?hs_NoNumber ?ht_NoNumber ?y0_NoNumber ?y1_NoNumber ?y2_NoNumber ?y3_NoNumber ?y4_NoNumber ?y5_NoNumber ?y6_NoNumber ?hx_NoOrder ?hk_NoOrder ?hs_NoOrder ?ht_NoOrder ?y0_NoOrder ?y1_NoOrder ?y2_NoOrder ?y3_NoOrder ?y4_NoOrder ?y5_NoOrder ?y6_NoOrder ?hq_NoOrder ?hx_NoProgram ?hk_NoProgram ?hs_NoProgram ?ht_NoProgram ?y0_NoProgram ?y1_NoProgram ?y2_NoProgram ?y3_NoProgram ?y4_NoProgram ?y5_NoProgram ?y6_NoProgram ?hx_NoRow ?hk_NoRow ?hs_NoRow ?ht_NoRow ?y0_NoRow ?y1_NoRow ?y2_NoRow ?y3_NoRow ?y4_NoRow ?y5_NoRow ?y6_NoRow ?hx_WeighError ?hk_WeighError ?hs_WeighError ?ht_WeighError ?y0_WeighError ?y1_WeighError ?y2_WeighError ?y3_WeighError ?y4_WeighError ?y5_WeighError ?y6_WeighError ?ms_NoOrder_WeighError ?mk_NoNumber ?mk_NoOrder ?mk_NoProgram ?mk_NoRow
    (case a0 => k_is); (case l0 => k_is); (case c0 => k_is); (case k0 => k_is); (case a1 => k_is); (case l1 => k_is); (case c1 => k_is); (case k1 => k_is); (case a2 => k_is); (case l2 => k_is); (case c2 => k_is); (case k2 => k_is); (case a3 => k_is); (case l3 => k_is); (case c3 => k_is); (case k3 => k_is); (case a4 => k_is); (case l4 => k_is); (case c4 => k_is); (case k4 => k_is); (case a5 => k_is); (case l5 => k_is); (case c5 => k_is); (case k5 => k_is); (case a6 => k_is); (case l6 => k_is); (case c6 => k_is); (case k6 => k_is); (case a7 => k_is); (case l7 => k_is); (case c7 => k_is); (case k7 => k_is); (case a8 => k_is); (case l8 => k_is); (case c8 => k_is); (case k8 => k_is); (case a9 => k_is); (case l9 => k_is); (case c9 => k_is); (case k9 => k_is); (case a10 => k_is); (case l10 => k_is); (case c10 => k_is); (case k10 => k_is); (case a11 => k_is); (case l11 => k_is); (case c11 => k_is); (case k11 => k_is); (case a12 => k_is); (case l12 => k_is); (case c12 => k_is); (case k12 => k_is); (case a13 => k_is); (case l13 => k_is); (case c13 => k_is); (case k13 => k_is); (case a14 => k_is); (case l14 => k_is); (case c14 => k_is); (case k14 => k_is); (case a15 => k_is); (case l15 => k_is); (case c15 => k_is); (case k15 => k_is); (case a16 => k_is); (case l16 => k_is); (case c16 => k_is); (case k16 => k_is); (case a17 => k_is); (case l17 => k_is); (case c17 => k_is); (case k17 => k_is); (case a18 => k_is); (case l18 => k_is); (case c18 => k_is); (case k18 => k_is); (case a19 => k_is); (case l19 => k_is); (case c19 => k_is); (case k19 => k_is); (case a20 => k_is); (case l20 => k_is); (case c20 => k_is); (case k20 => k_is); (case a21 => k_is); (case l21 => k_is); (case c21 => k_is); (case k21 => k_is); (case a22 => k_is); (case l22 => k_is); (case c22 => k_is); (case k22 => k_is); (case a23 => k_is); (case l23 => k_is); (case c23 => k_is); (case k23 => k_is); (case a24 => k_is); (case l24 => k_is); (case c24 => k_is); (case k24 => k_is); (case a25 => k_is); (case l25 => k_is); (case c25 => k_is); (case k25 => k_is); (case a26 => k_is); (case l26 => k_is); (case c26 => k_is); (case k26 => k_is); (case a27 => k_is); (case l27 => k_is); (case c27 => k_is); (case k27 => k_is); (case a28 => k_is); (case l28 => k_is); (case c28 => k_is); (case k28 => k_is); (case a29 => k_is); (case l29 => k_is); (case c29 => k_is); (case k29 => k_is); (case a30 => k_is); (case l30 => k_is); (case c30 => k_is); (case k30 => k_is); (case a31 => k_is); (case l31 => k_is); (case c31 => k_is); (case k31 => k_is); (case a32 => k_is); (case l32 => k_is); (case c32 => k_is); (case k32 => k_is); (case a33 => k_is); (case l33 => k_is); (case c33 => k_is); (case k33 => k_is); (case z_all => k_is); (case z_bool => k_is); (case z_enumerate => k_is); (case z_int => k_is); (case z_isinstance => k_is); (case z_len => k_is); (case z_list => k_is); (case z_max => k_is); (case z_min => k_is); (case z_range => k_is); (case z_repr => k_is); (case z_sorted => k_is); (case z_str => k_is); (case z_sum => k_is); (case z_tuple => k_is); (case z_zip => k_is); (case x_JUST => k_is); (case x_LEAST => k_is); (case x_LETTERS => k_is); (case x_LONGEST_NAME => k_is); (case x_MOST_NAMES => k_is); (case x_MOST_NUMBERS => k_is); (case x_MOST_PLACES => k_is); (case x_MOST_ROWS => k_is); (case x_MOST_WISHES => k_is); (case hx_NoNumber => k_is); (case hk_NoNumber => k_is); (case hs_NoNumber => k_is); (case ht_NoNumber => k_is); (case y0_NoNumber => k_is); (case y1_NoNumber => k_is); (case y2_NoNumber => k_is); (case y3_NoNumber => k_is); (case y4_NoNumber => k_is); (case y5_NoNumber => k_is); (case y6_NoNumber => k_is); (case hx_NoOrder => k_is); (case hk_NoOrder => k_is); (case hs_NoOrder => k_is); (case ht_NoOrder => k_is); (case y0_NoOrder => k_is); (case y1_NoOrder => k_is); (case y2_NoOrder => k_is); (case y3_NoOrder => k_is); (case y4_NoOrder => k_is); (case y5_NoOrder => k_is); (case y6_NoOrder => k_is); (case hq_NoOrder => kernel_rfl); (case hx_NoProgram => k_is); (case hk_NoProgram => k_is); (case hs_NoProgram => k_is); (case ht_NoProgram => k_is); (case y0_NoProgram => k_is); (case y1_NoProgram => k_is); (case y2_NoProgram => k_is); (case y3_NoProgram => k_is); (case y4_NoProgram => k_is); (case y5_NoProgram => k_is); (case y6_NoProgram => k_is); (case hx_NoRow => k_is); (case hk_NoRow => k_is); (case hs_NoRow => k_is); (case ht_NoRow => k_is); (case y0_NoRow => k_is); (case y1_NoRow => k_is); (case y2_NoRow => k_is); (case y3_NoRow => k_is); (case y4_NoRow => k_is); (case y5_NoRow => k_is); (case y6_NoRow => k_is); (case hx_WeighError => k_is); (case hk_WeighError => k_is); (case hs_WeighError => k_is); (case ht_WeighError => k_is); (case y0_WeighError => k_is); (case y1_WeighError => k_is); (case y2_WeighError => k_is); (case y3_WeighError => k_is); (case y4_WeighError => k_is); (case y5_WeighError => k_is); (case y6_WeighError => k_is); (case ms_NoOrder_WeighError => k_is); (case mk_NoNumber => kernel_rfl); (case mk_NoOrder => kernel_rfl); (case mk_NoProgram => kernel_rfl); (case mk_NoRow => kernel_rfl)
